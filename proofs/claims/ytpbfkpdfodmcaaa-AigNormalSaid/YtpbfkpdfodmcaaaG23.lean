import Derived.Test.YtpbfkpdfodmcaaaG21
namespace Go.Proofs.Ytpbfkpdfodmcaaa
open Go.RowKit
set_option maxRecDepth 100000
-- what the ands made anew come to
def valsL (state ins : List Bool) (l : List (Int × Int)) : List Bool := l.foldl vstep (false :: (ins ++ state))
def gOf (g : G) (l : List (Int × Int)) : G := ⟨g.ins, List.replicate g.next.length 0, List.replicate g.next.length 0, l, []⟩
theorem gOf_first (g : G) (l : List (Int × Int)) : (gOf g l).first = g.first := by
  show 1 + g.ins + ((List.replicate g.next.length (0 : Int)).length : Int) = _
  rw [List.length_replicate]
  rfl
theorem gOf_top (g : G) (l : List (Int × Int)) : (gOf g l).top = g.first - 1 + l.length := by
  show g.ins + ((List.replicate g.next.length (0 : Int)).length : Int) + l.length = _
  rw [List.length_replicate]
  unfold G.first
  omega
theorem gOf_ok {g : G} {l : List (Int × Int)} (hi : 0 ≤ g.ins) (h : AOk g.first l) : (gOf g l).Ok := by
  refine ⟨rfl, fun x hx => ?_, fun k x hx => ?_, fun x hx => ?_, fun x hx => by cases hx⟩
  · obtain rfl := List.eq_of_mem_replicate hx
    omega
  · rw [gOf_first]
    obtain ⟨⟨a1, a2⟩, a3, a4⟩ := h k x hx
    exact ⟨decide_eq_true (by omega), decide_eq_true (by omega)⟩
  · obtain rfl := List.eq_of_mem_replicate hx
    rw [gOf_top]
    unfold G.first
    exact decide_eq_true (by omega)
theorem andL_sem {g : G} {l : List (Int × Int)} {a b : Int} {state ins : List Bool} (hi : 0 ≤ g.ins) (hs : state.length = g.next.length ∧ (ins.length : Int) = g.ins) (h : AOk g.first l)
    (ha : 0 ≤ a ∧ a ≤ 2 * (g.first + l.length) - 1) (hb : 0 ≤ b ∧ b ≤ 2 * (g.first + l.length) - 1) (hsz : g.first + l.length ≤ 4000) :
    (∃ t, valsL state ins (andG g.first l a b).1 = valsL state ins l ++ t) ∧ litV (valsL state ins (andG g.first l a b).1) (andG g.first l a b).2 = (litV (valsL state ins l) a && litV (valsL state ins l) b) := by
  have e1 : g.first = 1 + g.ins + g.next.length := rfl
  have hF := gOf_first g l
  have hT := gOf_top g l
  have haf : AF (gOf g l) { gOf g l with ands := (andG (gOf g l).first (gOf g l).ands a b).1 } a b (andG (gOf g l).first (gOf g l).ands a b).2 := by
    refine ⟨gOf_ok hi h, ⟨hi, by show g.ins ≤ 4000; omega, by omega, by show ((([] : List Int).length : Nat) : Int) ≤ 4000; decide⟩, by omega, by omega, rfl, rfl, ?_⟩
    show g.ins + ((List.replicate g.next.length (0 : Int)).length : Int) + ((andG (gOf g l).first (gOf g l).ands a b).1.length : Nat) ≤ 4000
    rw [List.length_replicate]
    have := (andG_bd (first := g.first) (l := l) (by omega) ha hb).2.1
    rw [hF]
    show g.ins + (g.next.length : Int) + ((andG g.first l a b).1.length : Nat) ≤ 4000
    omega
  have := and_sem haf (state := state) (ins := ins) ⟨by show state.length = (List.replicate g.next.length (0 : Int)).length; rw [List.length_replicate]; exact hs.1, hs.2⟩
  rw [hF] at this
  exact this
theorem litV_litB {U : List Bool} {to : List Int} {x : Int} (ht : 0 ≤ to.getD (x / 2).toNat 0) : litV U (litB to x) = (litV U (to.getD (x / 2).toNat 0) != decide (x % 2 = 1)) := by
  unfold litB xr
  generalize to.getD (x / 2).toNat 0 = v at *
  rcases (by omega : x % 2 = 0 ∨ x % 2 = 1) with h | h
  · rw [h, if_pos rfl]
    cases litV U v <;> rfl
  · rw [h, if_neg (by decide)]
    unfold litV
    split
    · rename_i h2
      rw [show (v + 1) / 2 = v / 2 by omega, show (v + 1) % 2 = 1 by omega, h2]
      cases U.getD (v / 2).toNat false <;> rfl
    · rename_i h2
      rw [show (v - 1) / 2 = v / 2 by omega, show (v - 1) % 2 = 0 by omega, show v % 2 = 1 by omega]
      cases U.getD (v / 2).toNat false <;> rfl
theorem valsL_len (state ins : List Bool) (l : List (Int × Int)) : (valsL state ins l).length = 1 + ins.length + state.length + l.length := by
  unfold valsL
  rw [vfold_len, List.length_cons, List.length_append]
  omega
/-- numbers that are kept -/
def lv (first : Int) (keep : Nat → Bool) (j : Int) : Prop := j < first ∨ keep (j - first).toNat = true
theorem bldS_sem {g : G} {keep : Nat → Bool} {state ins : List Bool} (hok : g.Ok) (hi : 0 ≤ g.ins) (hT : g.top ≤ 4000) (hs : state.length = g.next.length ∧ (ins.length : Int) = g.ins)
    (hcl : ∀ (k : Nat) x, g.ands[k]? = some x → keep k = true → lv g.first keep (x.1 / 2) ∧ lv g.first keep (x.2 / 2)) :
    ∀ k, k ≤ g.ands.length → ∀ j : Nat, (j : Int) < g.first + k → lv g.first keep j → litV (valsL state ins (bldS g.first g.ands keep k).1) ((bldS g.first g.ands keep k).2.getD j 0) = (valsG g state ins).getD j false
  | 0, _, j, hj, _ => by
    have e1 : g.first = 1 + g.ins + g.next.length := rfl
    show litV (false :: (ins ++ state)) ((to0 g.first.toNat).getD j 0) = _
    rw [to0_get (by omega), litV_even]
    obtain ⟨t, ht⟩ := vf_pre g.ands (false :: (ins ++ state))
    unfold valsG
    rw [ht, Int.toNat_natCast, List.getD_eq_getElem?_getD (l := _ ++ _), List.getElem?_append_left (by rw [List.length_cons, List.length_append]; omega), List.getD_eq_getElem?_getD]
  | k + 1, hk, j, hj, hlv => by
    have e1 : g.first = 1 + g.ins + g.next.length := rfl
    have e2 : g.top = g.ins + g.next.length + g.ands.length := rfl
    have ih := bldS_sem hok hi hT hs hcl k (by omega)
    obtain ⟨h1, h2, h3, h4⟩ := bldS_ok (keep := keep) (by omega) (hok.aok hi) k (by omega)
    obtain ⟨x, hx⟩ : ∃ x, g.ands[k]? = some x := ⟨_, List.getElem?_eq_getElem (by omega)⟩
    obtain ⟨⟨a1, a2⟩, a3, a4⟩ := hok.aok hi k x hx
    unfold bldS
    rw [List.getD_eq_getElem?_getD (l := g.ands), hx, Option.getD_some]
    generalize bldS g.first g.ands keep k = s at *
    have hnn : ∀ n : Nat, 0 ≤ s.2.getD n 0 := fun n => by
      rw [List.getD_eq_getElem?_getD]
      cases hg : s.2[n]? with
      | none => exact Int.le_refl 0
      | some y => exact (h3 y (List.mem_of_getElem? hg)).1
    have hV : ∀ (j : Nat) (t : List Bool), (j : Int) < g.first + k → litV (valsL state ins s.1 ++ t) (s.2.getD j 0) = litV (valsL state ins s.1) (s.2.getD j 0) := fun j t hj => by
      refine litV_app ⟨hnn j, ?_⟩
      obtain ⟨y, hy⟩ : ∃ y, s.2[j]? = some y := ⟨_, List.getElem?_eq_getElem (by omega)⟩
      rw [List.getD_eq_getElem?_getD, hy, Option.getD_some, valsL_len]
      have := h3 y (List.mem_of_getElem? hy)
      omega
    by_cases hm : keep k = true
    · rw [if_pos hm]
      dsimp only
      have c1 := litB_bd (x := x.1) ⟨a1, by omega⟩ h3
      have c2 := litB_bd (x := x.2) ⟨a3, by omega⟩ h3
      obtain ⟨⟨t, ht⟩, hc⟩ := andL_sem (state := state) (ins := ins) hi hs h4 c1 c2 (by omega)
      obtain ⟨l1, l2⟩ := hcl k x hx hm
      rcases (by omega : (j : Int) < g.first + k ∨ (j : Int) = g.first + k) with hlt | heq
      · rw [getD_app1 (by omega), ht, hV j t hlt]
        exact ih j hlt hlv
      · rw [show j = s.2.length by omega, getD_app2, hc, litV_litB (hnn _), litV_litB (hnn _), ih _ (by omega) (by rw [Int.toNat_of_nonneg (by omega)]; exact l1), ih _ (by omega) (by rw [Int.toNat_of_nonneg (by omega)]; exact l2)]
        have := vals_at hok hi hs hx
        rw [show (g.first + (k : Int)).toNat = s.2.length by omega] at this
        rw [this]
        rfl
    · rw [if_neg hm]
      dsimp only
      rcases (by omega : (j : Int) < g.first + k ∨ (j : Int) = g.first + k) with hlt | heq
      · rw [getD_app1 (by omega)]
        exact ih j hlt hlv
      · exfalso
        rcases hlv with h | h
        · omega
        · rw [show ((j : Int) - g.first).toNat = k by omega] at h
          exact hm h
theorem bldG_sem {g : G} {keep : Nat → Bool} {state ins : List Bool} (hok : g.Ok) (hi : 0 ≤ g.ins) (hT : g.top ≤ 4000) (hs : state.length = g.next.length ∧ (ins.length : Int) = g.ins)
    (hcl : ∀ (k : Nat) x, g.ands[k]? = some x → keep k = true → lv g.first keep (x.1 / 2) ∧ lv g.first keep (x.2 / 2)) {x : Int} (hx : litOk x g.top = true) (hl : lv g.first keep (x / 2)) :
    litV (valsG (bldG g keep) state ins) (litB (bldS g.first g.ands keep g.ands.length).2 x) = litV (valsG g state ins) x := by
  have e1 : g.first = 1 + g.ins + g.next.length := rfl
  have e2 : g.top = g.ins + g.next.length + g.ands.length := rfl
  have hx2 := of_decide_eq_true hx
  obtain ⟨h1, h2, h3, h4⟩ := bldS_ok (keep := keep) (by omega) (hok.aok hi) g.ands.length (Nat.le_refl _)
  have h := bldS_sem hok hi hT hs hcl g.ands.length (Nat.le_refl _) (x / 2).toNat (by omega) (by rw [Int.toNat_of_nonneg (by omega)]; exact hl)
  rw [litV_litB]
  · show (litV (valsL state ins (bldS g.first g.ands keep g.ands.length).1) _ != _) = _
    rw [h]
    rfl
  · obtain ⟨y, hy⟩ : ∃ y, (bldS g.first g.ands keep g.ands.length).2[(x / 2).toNat]? = some y := ⟨_, List.getElem?_eq_getElem (by omega)⟩
    rw [List.getD_eq_getElem?_getD, hy, Option.getD_some]
    exact (h3 y (List.mem_of_getElem? hy)).1
/-- outputs and next states of a graph -/
def outG (g : G) (state ins : List Bool) : List Bool × List Bool := (g.outs.map (litV (valsG g state ins)), g.next.map (litV (valsG g state ins)))
theorem bldG_outs {g : G} {keep : Nat → Bool} {state ins : List Bool} (hok : g.Ok) (hi : 0 ≤ g.ins) (hT : g.top ≤ 4000) (hs : state.length = g.next.length ∧ (ins.length : Int) = g.ins)
    (hcl : ∀ (k : Nat) x, g.ands[k]? = some x → keep k = true → lv g.first keep (x.1 / 2) ∧ lv g.first keep (x.2 / 2)) (he : ∀ x ∈ g.next ++ g.outs, lv g.first keep (x / 2)) : outG (bldG g keep) state ins = outG g state ins := by
  refine Prod.ext ?_ ?_
  · show (g.outs.map _).map _ = g.outs.map _
    rw [List.map_map]
    exact List.map_congr_left fun x hx => bldG_sem hok hi hT hs hcl (hok.o x hx) (he x (List.mem_append_right _ hx))
  · show (g.next.map _).map _ = g.next.map _
    rw [List.map_map]
    exact List.map_congr_left fun x hx => bldG_sem hok hi hT hs hcl (hok.n x hx) (he x (List.mem_append_left _ hx))
theorem closeG_outs {g : G} {state ins : List Bool} (hok : g.Ok) (hi : 0 ≤ g.ins) (hT : g.top ≤ 4000) (hs : state.length = g.next.length ∧ (ins.length : Int) = g.ins) : outG (closeG g) state ins = outG g state ins := by
  have e1 : g.first = 1 + g.ins + g.next.length := rfl
  have e2 : g.top = g.ins + g.next.length + g.ands.length := rfl
  have hk : ∀ x : Int, 0 ≤ x → (ledL g).getD (x / 2).toNat false = true → lv g.first (fun k => (ledL g).getD (g.first + k).toNat false) (x / 2) := fun x hx h => by
    rcases (by omega : x / 2 < g.first ∨ g.first ≤ x / 2) with hl | hl
    · exact .inl hl
    · right
      show (ledL g).getD (g.first + ((x / 2 - g.first).toNat : Int)).toNat false = true
      rw [show (g.first + ((x / 2 - g.first).toNat : Int)).toNat = (x / 2).toNat by omega]
      exact h
  refine bldG_outs hok hi hT hs (fun k x hx hm => ?_) fun x hx => ?_
  · obtain ⟨⟨a1, a2⟩, a3, a4⟩ := hok.aok hi k x hx
    obtain ⟨m1, m2⟩ := led_closed hok hi hx hm
    exact ⟨hk _ a1 m1, hk _ a3 m2⟩
  · have hx2 : 0 ≤ x ∧ x ≤ 2 * g.top + 1 := (List.mem_append.1 hx).elim (fun e => of_decide_eq_true (hok.n x e)) fun e => of_decide_eq_true (hok.o x e)
    exact hk x hx2.1 (led_ends hx (by omega))
theorem normG_outs {g : G} {state ins : List Bool} (hok : g.Ok) (hi : 0 ≤ g.ins) (hT : g.top ≤ 4000) (hs : state.length = g.next.length ∧ (ins.length : Int) = g.ins) : outG (normG g) state ins = outG g state ins := by
  obtain ⟨n1, n2, n3⟩ := bldG_ok (fun _ => true) hok hi
  have h1 : outG (bldG g fun _ => true) state ins = outG g state ins := bldG_outs hok hi hT hs (fun _ _ _ _ => ⟨.inr rfl, .inr rfl⟩) fun _ _ => .inr rfl
  have h2 := closeG_outs (g := bldG g fun _ => true) (state := state) (ins := ins) n1 hi (by omega) ⟨by show state.length = (g.next.map _).length; rw [List.length_map]; exact hs.1, hs.2⟩
  exact h2.trans h1
-- a strict graph is itself
theorem bldS_congr {first : Int} {l : List (Int × Int)} {p q : Nat → Bool} : ∀ k, (∀ j, j < k → p j = q j) → bldS first l p k = bldS first l q k
  | 0, _ => rfl
  | k + 1, h => by
    unfold bldS
    rw [bldS_congr k fun j hj => h j (by omega), h k (by omega)]
theorem litB_to0 {n : Nat} {x : Int} (hx : 0 ≤ x ∧ x / 2 < n) : litB (to0 n) x = x := by
  have h := to0_get (n := n) (i := (x / 2).toNat) (by omega)
  rw [litB_parts hx.1 (by rw [h]; omega), h]
  omega
theorem bldS_id {first : Int} {l : List (Int × Int)} (hf : 1 ≤ first) (ha : AOk first l) (hc : Clean l) : ∀ k, k ≤ l.length → bldS first l (fun _ => true) k = (l.take k, to0 (first.toNat + k))
  | 0, _ => rfl
  | k + 1, hk => by
    obtain ⟨x, hx⟩ : ∃ x, l[k]? = some x := ⟨_, List.getElem?_eq_getElem (by omega)⟩
    obtain ⟨⟨a1, a2⟩, a3, a4⟩ := ha k x hx
    have ih := bldS_id hf ha hc k (by omega)
    have hcx := hc.each x (List.mem_of_getElem? hx)
    unfold bldS
    rw [ih, if_pos rfl, List.getD_eq_getElem?_getD, hx, Option.getD_some]
    dsimp only
    rw [litB_to0 ⟨a1, by omega⟩, litB_to0 ⟨a3, by omega⟩]
    have hni : ¬ 0 ≤ idxP (l.take k) (x.1, x.2) := fun hi => by
      have hm := List.mem_of_getElem? (idxP_get hi)
      obtain ⟨j, hj⟩ := List.getElem?_of_mem hm
      have hjk : j < k := by
        have := (List.getElem?_eq_some_iff.1 hj).1
        rw [List.length_take] at this
        omega
      rw [List.getElem?_take_of_lt hjk] at hj
      have := (List.getElem?_inj (by omega) hc.once).1 (hj.trans hx.symm)
      omega
    have hand : andG first (l.take k) x.1 x.2 = (l.take k ++ [x], 2 * (first + k)) := by
      obtain ⟨z1, z2, z3⟩ := plain_none (u := x.1) (v := x.2) hcx
      unfold andG
      rw [z1]
      dsimp only
      rw [z2, z3, if_neg hni, List.length_take, show min k l.length = k by omega]
    rw [hand]
    dsimp only
    rw [List.take_add_one, hx, ← Nat.add_assoc, to0_succ, show ((first.toNat + k : Nat) : Int) = first + k by omega]
    rfl
theorem bldG_id {g : G} (hok : g.Ok) (hi : 0 ≤ g.ins) (hc : Clean g.ands) : (bldG g fun _ => true) = g := by
  have e1 : g.first = 1 + g.ins + g.next.length := rfl
  have e2 : g.top = g.ins + g.next.length + g.ands.length := rfl
  have h := bldS_id (by omega) (hok.aok hi) hc g.ands.length (Nat.le_refl _)
  have hl : ∀ l : List Int, (∀ x ∈ l, litOk x g.top = true) → l.map (litB (to0 (g.first.toNat + g.ands.length))) = l := fun l hl => by
    conv => rhs; rw [← List.map_id l]
    refine List.map_congr_left fun x hx => ?_
    have := of_decide_eq_true (hl x hx)
    exact litB_to0 ⟨by omega, by omega⟩
  unfold bldG
  rw [h, List.take_length]
  dsimp only
  rw [hl _ hok.n, hl _ hok.o]
theorem strict_clean {g : G} (h : strictP g) : Clean g.ands := by
  refine ⟨fun p hp => ?_, ?_⟩
  · obtain ⟨i, hi⟩ := List.getElem?_of_mem hp
    have hb := h.2.1 i p hi
    unfold badA at hb
    refine ⟨?_, ?_, ?_⟩ <;> omega
  · unfold List.Nodup
    rw [List.pairwise_iff_getElem]
    intro i j hi hj hij he
    refine h.2.1 j _ (List.getElem?_eq_getElem hj) (.inl ?_)
    rw [← he]
    have : (g.ands.take j)[i]? = some g.ands[i] := by rw [List.getElem?_take_of_lt hij, List.getElem?_eq_getElem hi]
    exact List.mem_of_getElem? this
theorem strict_norm {g : G} (h : strictP g) : normG g = g := by
  obtain ⟨hl, hok⟩ := checkG_ok h.1
  have e1 : g.first = 1 + g.ins + g.next.length := rfl
  have e2 : g.top = g.ins + g.next.length + g.ands.length := rfl
  have hc := strict_clean h
  have hb := bldG_id hok hl.1 hc
  unfold normG
  rw [hb]
  unfold closeG
  have hk : bldS g.first g.ands (fun k => (ledL g).getD (g.first + (k : Int)).toNat false) g.ands.length = bldS g.first g.ands (fun _ => true) g.ands.length := bldS_congr _ fun j hj => by
    have hll := ledL_len g
    obtain ⟨y, hy⟩ : ∃ y, (ledL g)[(g.first + (j : Int)).toNat]? = some y := ⟨_, List.getElem?_eq_getElem (by omega)⟩
    rw [List.getD_eq_getElem?_getD, hy, Option.getD_some]
    refine h.2.2 y (List.mem_of_getElem? (i := j) ?_)
    rw [List.getElem?_drop, show g.first.toNat + j = (g.first + (j : Int)).toNat by omega]
    exact hy
  have : bldG g (fun k => (ledL g).getD (g.first + (k : Int)).toNat false) = bldG g fun _ => true := by
    unfold bldG
    rw [hk]
  rw [this]
  exact hb
-- what is reached
inductive Rc (g : G) : Nat → Prop
  | ends {x : Int} (h : x ∈ g.next ++ g.outs) : Rc g (x / 2).toNat
  | one {k : Nat} {x : Int × Int} (h : g.ands[k]? = some x) (hk : Rc g (g.first + k).toNat) : Rc g (x.1 / 2).toNat
  | two {k : Nat} {x : Int × Int} (h : g.ands[k]? = some x) (hk : Rc g (g.first + k).toNat) : Rc g (x.2 / 2).toNat
theorem rc_marked {g : G} (hok : g.Ok) (hi : 0 ≤ g.ins) {n : Nat} (h : Rc g n) : (ledL g).getD n false = true := by
  induction h with
  | ends h =>
    rename_i x
    have e1 : g.top = g.ins + g.next.length + g.ands.length := rfl
    have hx2 : 0 ≤ x ∧ x ≤ 2 * g.top + 1 := (List.mem_append.1 h).elim (fun e => of_decide_eq_true (hok.n x e)) fun e => of_decide_eq_true (hok.o x e)
    exact led_ends h (by omega)
  | one h _ ih => exact (led_closed hok hi h ih).1
  | two h _ ih => exact (led_closed hok hi h ih).2
theorem mark1_P {P : Nat → Prop} {m : List Bool} {x : Int} (hx : P (x / 2).toNat) (hm : ∀ n, m.getD n false = true → P n) (n : Nat) (h : (mark1 m x).getD n false = true) : P n := by
  by_cases he : (x / 2).toNat = n
  · rw [← he]; exact hx
  · rw [mark1_other he] at h
    exact hm n h
theorem fold_P {P : Nat → Prop} : ∀ (l : List Int) (m : List Bool), (∀ x ∈ l, P (x / 2).toNat) → (∀ n, m.getD n false = true → P n) → ∀ n, (l.foldl mark1 m).getD n false = true → P n
  | [], _, _, hm => hm
  | x :: l, _, hl, hm => fold_P l _ (fun y hy => hl y (List.mem_cons_of_mem _ hy)) (mark1_P (hl x List.mem_cons_self) hm)
theorem ledS_rc {g : G} : ∀ i, i ≤ g.ands.length → ∀ n, (ledS g (led0 g) i).getD n false = true → Rc g n
  | 0, _, n, h => by
    refine fold_P (P := Rc g) _ _ (fun x hx => .ends hx) (fun n hn => ?_) n h
    rw [List.getD_eq_getElem?_getD, List.getElem?_replicate] at hn
    split at hn <;> cases hn
  | i + 1, hi, n, h => by
    have ih := ledS_rc (g := g) i (by omega)
    obtain ⟨x, hx⟩ : ∃ x, g.ands[g.ands.length - 1 - i]? = some x := ⟨_, List.getElem?_eq_getElem (by omega)⟩
    rw [ledS, stepG] at h
    split at h
    · rename_i hm
      have hr := ih _ hm
      rw [List.getD_eq_getElem?_getD (l := g.ands), hx, Option.getD_some] at h
      exact mark1_P (.two hx hr) (mark1_P (.one hx hr) ih) n h
    · exact ih n h
theorem marked_rc {g : G} {n : Nat} (h : (ledL g).getD n false = true) : Rc g n := ledS_rc _ (Nat.le_refl _) n h
structure RJ (g : G) (M : List Bool) (k : Nat) (r : List (Int × Int) × List Int) : Prop where
  ahead : ∀ (j : Nat) (p : Int × Int), j < k → g.ands[j]? = some p → M.getD (g.first + j).toNat false = true → ∃ i : Nat, r.2.getD (g.first + j).toNat 0 = 2 * (g.first + i) ∧ r.1[i]? = some (litB r.2 p.1, litB r.2 p.2)
  back : ∀ i : Nat, i < r.1.length → ∃ j : Nat, j < k ∧ M.getD (g.first + j).toNat false = true ∧ r.2.getD (g.first + j).toNat 0 = 2 * (g.first + i)
theorem rclS_rj {g : G} {M : List Bool} (hf : 1 ≤ g.first) (ha : AOk g.first g.ands) : ∀ k, k ≤ g.ands.length → RJ g M k (rclS g M k)
  | 0, _ => ⟨fun j p hj => absurd hj (Nat.not_lt_zero j), fun i hi => absurd hi (Nat.not_lt_zero i)⟩
  | k + 1, hk => by
    obtain ⟨i1, i2⟩ := rclS_rj (M := M) hf ha k (by omega)
    have hlen := (rclS_ri (M := M) hf ha k (by omega)).len
    obtain ⟨x, hx⟩ : ∃ x, g.ands[k]? = some x := ⟨_, List.getElem?_eq_getElem (by omega)⟩
    unfold rclS
    rw [List.getD_eq_getElem?_getD (l := g.ands), hx, Option.getD_some]
    generalize rclS g M k = r at *
    have hg : ∀ j : Nat, j < k → (r.2 ++ [2 * (g.first + (r.1.length : Int))]).getD (g.first + j).toNat 0 = r.2.getD (g.first + j).toNat 0 := fun j hj => getD_app1 (by omega)
    have hold : ∀ (j : Nat) (p : Int × Int) (t : List (Int × Int)), j < k → g.ands[j]? = some p → M.getD (g.first + j).toNat false = true → ∃ i : Nat, (r.2 ++ [2 * (g.first + (r.1.length : Int))]).getD (g.first + j).toNat 0 = 2 * (g.first + i) ∧ (r.1 ++ t)[i]? = some (litB (r.2 ++ [2 * (g.first + (r.1.length : Int))]) p.1, litB (r.2 ++ [2 * (g.first + (r.1.length : Int))]) p.2) := fun j p t hj hp hm => by
      obtain ⟨i, e1, e2⟩ := i1 j p hj hp hm
      obtain ⟨⟨b1, b2⟩, b3, b4⟩ := ha j p hp
      refine ⟨i, by rw [hg j hj]; exact e1, ?_⟩
      rw [List.getElem?_append_left (List.getElem?_eq_some_iff.1 e2).1, litB_app ⟨b1, by omega⟩, litB_app ⟨b3, by omega⟩]
      exact e2
    have hnew : (r.2 ++ [2 * (g.first + (r.1.length : Int))]).getD (g.first + k).toNat 0 = 2 * (g.first + (r.1.length : Int)) := by
      rw [show (g.first + (k : Int)).toNat = r.2.length by omega, getD_app2]
    split
    · rename_i hm
      refine ⟨fun j p hj hp hmj => ?_, fun i hi => ?_⟩
      · rcases Nat.lt_or_eq_of_le (Nat.lt_succ_iff.1 hj) with h | rfl
        · exact hold j p _ h hp hmj
        · rw [hx] at hp
          cases hp
          refine ⟨r.1.length, hnew, ?_⟩
          show (r.1 ++ [_])[r.1.length]? = _
          rw [List.getElem?_append_right (Nat.le_refl _), Nat.sub_self]
          rfl
      · change i < (r.1 ++ [_]).length at hi
        rw [List.length_append, List.length_singleton] at hi
        rcases Nat.lt_or_eq_of_le (Nat.lt_succ_iff.1 hi) with h | rfl
        · obtain ⟨j, j1, j2, j3⟩ := i2 i h
          exact ⟨j, by omega, j2, by show (r.2 ++ _).getD _ 0 = _; rw [hg j j1]; exact j3⟩
        · exact ⟨k, by omega, hm, hnew⟩
    · rename_i hm
      refine ⟨fun j p hj hp hmj => ?_, fun i hi => ?_⟩
      · rcases Nat.lt_or_eq_of_le (Nat.lt_succ_iff.1 hj) with h | rfl
        · have := hold j p [] h hp hmj
          rw [List.append_nil] at this
          exact this
        · exact absurd hmj hm
      · obtain ⟨j, j1, j2, j3⟩ := i2 i hi
        exact ⟨j, by omega, j2, by show (r.2 ++ _).getD _ 0 = _; rw [hg j j1]; exact j3⟩
theorem litB_half {to : List Int} {x : Int} (hx : 0 ≤ x) (he : to.getD (x / 2).toNat 0 % 2 = 0) : litB to x / 2 = to.getD (x / 2).toNat 0 / 2 := by
  rw [litB_parts hx he]
  omega
theorem rc_close {g : G} (hok : g.Ok) (hi : 0 ≤ g.ins) {n : Nat} (h : Rc g n) : Rc (rcloseG g) ((rclS g (ledL g) g.ands.length).2.getD n 0 / 2).toNat := by
  have e1 : g.first = 1 + g.ins + g.next.length := rfl
  have e2 : g.top = g.ins + g.next.length + g.ands.length := rfl
  have hf : 1 ≤ g.first := by omega
  have hR := rclS_ri (M := ledL g) hf (hok.aok hi) g.ands.length (Nat.le_refl _)
  have hJ := rclS_rj (M := ledL g) hf (hok.aok hi) g.ands.length (Nat.le_refl _)
  have hF : (rcloseG g).first = g.first := by
    show 1 + g.ins + ((g.next.map _).length : Int) = _
    rw [List.length_map]
    rfl
  induction h with
  | ends h =>
    rename_i x
    have hx2 : 0 ≤ x ∧ x ≤ 2 * g.top + 1 := (List.mem_append.1 h).elim (fun e => of_decide_eq_true (hok.n x e)) fun e => of_decide_eq_true (hok.o x e)
    rw [← litB_half hx2.1 (hR.even _ (by rw [hR.len]; omega)).1]
    refine .ends ?_
    show _ ∈ g.next.map _ ++ g.outs.map _
    rw [← List.map_append]
    exact List.mem_map_of_mem h
  | one hx hr ih =>
    rename_i k x
    obtain ⟨⟨a1, a2⟩, a3, a4⟩ := hok.aok hi k x hx
    have hk := (List.getElem?_eq_some_iff.1 hx).1
    obtain ⟨i, q1, q2⟩ := hJ.ahead k x hk hx (rc_marked hok hi hr)
    rw [q1, show (2 * (g.first + (i : Int)) / 2).toNat = (g.first + (i : Int)).toNat by omega, ← hF] at ih
    have := Rc.one (g := rcloseG g) q2 ih
    rw [← litB_half a1 (hR.even _ (by rw [hR.len]; omega)).1]
    exact this
  | two hx hr ih =>
    rename_i k x
    obtain ⟨⟨a1, a2⟩, a3, a4⟩ := hok.aok hi k x hx
    have hk := (List.getElem?_eq_some_iff.1 hx).1
    obtain ⟨i, q1, q2⟩ := hJ.ahead k x hk hx (rc_marked hok hi hr)
    rw [q1, show (2 * (g.first + (i : Int)) / 2).toNat = (g.first + (i : Int)).toNat by omega, ← hF] at ih
    have := Rc.two (g := rcloseG g) q2 ih
    rw [← litB_half a3 (hR.even _ (by rw [hR.len]; omega)).1]
    exact this
theorem norm_strict {g : G} (hc : checkG g = 0) : strictP (normG g) := by
  obtain ⟨hl, hok⟩ := checkG_ok hc
  have hi := hl.1
  have e1 : g.first = 1 + g.ins + g.next.length := rfl
  obtain ⟨n1, n2, n3⟩ := bldG_ok (fun _ => true) hok hi
  have hcl : Clean (bldG g fun _ => true).ands := bldS_clean (by omega) (hok.aok hi) _ (Nat.le_refl _)
  have hls : (bldG g fun _ => true).ins = g.ins := rfl
  have hlo : (bldG g fun _ => true).outs.length = g.outs.length := List.length_map _
  unfold normG
  generalize (bldG g fun _ => true) = m at *
  have hi' : 0 ≤ m.ins := by omega
  have hf : 1 ≤ m.first := by omega
  have f1 : m.first = 1 + m.ins + m.next.length := rfl
  have f2 : m.top = m.ins + m.next.length + m.ands.length := rfl
  obtain ⟨k1, k2, k3⟩ := bldG_ok (fun k => (ledL m).getD (m.first + k).toNat false) n1 hi'
  have hce := close_eq n1 hi' hcl
  have hcn : Clean (closeG m).ands := bldS_clean hf (n1.aok hi') _ (Nat.le_refl _)
  have hok2 : (closeG m).Ok := k1
  have htop : (closeG m).top ≤ m.top := k2
  have hfirst : (closeG m).first = m.first := k3
  have hins : (closeG m).ins = m.ins := rfl
  have houts : (closeG m).outs.length = m.outs.length := List.length_map _
  have hands : (closeG m).ands = (rclS m (ledL m) m.ands.length).1 := by rw [hce]; rfl
  have hrc : ∀ n, Rc m n → Rc (closeG m) ((rclS m (ledL m) m.ands.length).2.getD n 0 / 2).toNat := fun n h => by
    rw [hce]
    exact rc_close n1 hi' h
  have hJ := rclS_rj (M := ledL m) hf (n1.aok hi') m.ands.length (Nat.le_refl _)
  generalize closeG m = c at *
  have f3 : c.first = 1 + c.ins + c.next.length := rfl
  have f4 : c.top = c.ins + c.next.length + c.ands.length := rfl
  have hic : 0 ≤ c.ins := by omega
  refine ⟨check_of_ok hok2 (by omega), fun i x hx => ?_, fun y hy => ?_⟩
  · obtain ⟨w1, w2, w3⟩ := hcn.each x (List.mem_of_getElem? hx)
    rintro (h | h | h | h)
    · obtain ⟨j, hj⟩ := List.getElem?_of_mem h
      have hji : j < i := by
        have := (List.getElem?_eq_some_iff.1 hj).1
        rw [List.length_take] at this
        omega
      rw [List.getElem?_take_of_lt hji] at hj
      have := (List.getElem?_inj (List.getElem?_eq_some_iff.1 hj).1 hcn.once).1 (hj.trans hx.symm)
      omega
    · omega
    · omega
    · omega
  · obtain ⟨i, hy⟩ := List.getElem?_of_mem hy
    have hlt := (List.getElem?_eq_some_iff.1 hy).1
    rw [List.length_drop, ledL_len] at hlt
    obtain ⟨j, j1, j2, j3⟩ := hJ.back i (by rw [← hands]; omega)
    have h := rc_marked hok2 hic (hrc _ (marked_rc j2))
    rw [j3, show (2 * (m.first + (i : Int)) / 2).toNat = c.first.toNat + i by omega, List.getD_eq_getElem?_getD] at h
    rw [List.getElem?_drop] at hy
    rw [hy] at h
    exact h
theorem bldG_fewN {g : G} {keep : Nat → Bool} (h : g.Ok) (hi : 0 ≤ g.ins) : (bldG g keep).next.length = g.next.length ∧ (bldG g keep).init.length = g.init.length ∧ (bldG g keep).ands.length ≤ g.ands.length ∧ (bldG g keep).outs.length = g.outs.length :=
  ⟨List.length_map _, rfl, (bldS_ok (keep := keep) (by unfold G.first; omega) (h.aok hi) _ (Nat.le_refl _)).few, List.length_map _⟩
theorem norm_fewN {g : G} (h : g.Ok) (hi : 0 ≤ g.ins) : (normG g).next.length = g.next.length ∧ (normG g).init.length = g.init.length ∧ (normG g).ands.length ≤ g.ands.length ∧ (normG g).outs.length = g.outs.length := by
  obtain ⟨n1, n2, n3⟩ := bldG_ok (fun _ => true) h hi
  obtain ⟨a1, a2, a3, a4⟩ := bldG_fewN (keep := fun _ => true) h hi
  obtain ⟨b1, b2, b3, b4⟩ := bldG_fewN (g := bldG g fun _ => true) (keep := fun k => (ledL (bldG g fun _ => true)).getD ((bldG g fun _ => true).first + k).toNat false) n1 hi
  exact ⟨b1.trans a1, b2.trans a2, Nat.le_trans b3 a3, b4.trans a4⟩
end Go.Proofs.Ytpbfkpdfodmcaaa
