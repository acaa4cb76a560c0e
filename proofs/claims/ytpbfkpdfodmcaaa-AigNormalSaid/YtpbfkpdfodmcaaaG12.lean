import Derived.Test.YtpbfkpdfodmcaaaG10
namespace Go.Proofs.Ytpbfkpdfodmcaaa
open Go.RowKit
set_option maxRecDepth 100000
set_option linter.unusedSimpArgs false
variable (Hy : World → Prop)
attribute [local irreducible] runM runD cwp seqQ blkQ lpQ retQ asQ bdQ
/-- And, as three values -/
def andF (g : G) (a b : Int) : G × Int × Int :=
  if checkG g ≠ 0 then (g00_, 0, checkG g) else
  if ¬ (litOk a g.top = true ∧ litOk b g.top = true) then (g00_, 0, 1) else
  if g.top < 4000 ∨ (andG g.first g.ands a b).1.length = g.ands.length then ({ g with ands := (andG g.first g.ands a b).1 }, (andG g.first g.ands a b).2, 0) else (g00_, 0, 8)
theorem andR_eq (g : G) (a b : Int) : andR g a b = [(andF g a b).1.t, .i .i64 (andF g a b).2.1, .i .i64 (andF g a b).2.2] := by
  unfold andR andF
  split
  · rfl
  split
  · rfl
  split <;> rfl
theorem andG_comm (first : Int) (l : List (Int × Int)) (a b : Int) : andG first l b a = andG first l a b := by
  unfold andG
  rw [Int.max_comm b a, Int.min_comm b a]
theorem andF_comm (g : G) (a b : Int) : andF g b a = andF g a b := by
  have h : (litOk b g.top = true ∧ litOk a g.top = true) ↔ (litOk a g.top = true ∧ litOk b g.top = true) := And.comm
  unfold andF
  simp only [andG_comm g.first g.ands a b, h]
/-- what is so where And tells no error -/
structure AF (g x : G) (a b c : Int) : Prop where
  gk : g.Ok
  gl : 0 ≤ g.ins ∧ g.ins ≤ 4000 ∧ g.top ≤ 4000 ∧ (g.outs.length : Int) ≤ 4000
  la : 0 ≤ a ∧ a ≤ 2 * g.top + 1
  lb : 0 ≤ b ∧ b ≤ 2 * g.top + 1
  xe : x = { g with ands := (andG g.first g.ands a b).1 }
  ce : c = (andG g.first g.ands a b).2
  xt : x.top ≤ 4000
theorem andG_len (first : Int) (l : List (Int × Int)) (a b : Int) : (andG first l a b).1 = l ∨ ∃ y, (andG first l a b).1 = l ++ [y] := by
  unfold andG
  split
  · exact .inl rfl
  · split
    · exact .inl rfl
    · exact .inr ⟨_, rfl⟩
theorem andF_ok {g : G} {a b : Int} (he : (andF g a b).2.2 = 0) : AF g (andF g a b).1 a b (andF g a b).2.1 := by
  unfold andF at he ⊢
  by_cases h1 : checkG g ≠ 0
  · rw [if_pos h1] at he
    exact absurd he h1
  rw [if_neg h1] at he ⊢
  by_cases h2 : ¬ (litOk a g.top = true ∧ litOk b g.top = true)
  · rw [if_pos h2] at he
    exact absurd he (by decide)
  rw [if_neg h2] at he ⊢
  by_cases h3 : g.top < 4000 ∨ (andG g.first g.ands a b).1.length = g.ands.length
  · rw [if_pos h3]
    obtain ⟨hl, hok⟩ := checkG_ok (Decidable.not_not.1 h1)
    obtain ⟨ha, hb⟩ := Decidable.not_not.1 h2
    refine ⟨hok, hl, of_decide_eq_true ha, of_decide_eq_true hb, rfl, rfl, ?_⟩
    show g.ins + (g.next.length : Int) + ((andG g.first g.ands a b).1.length : Nat) ≤ 4000
    have e2 : g.top = g.ins + g.next.length + g.ands.length := rfl
    rcases andG_len g.first g.ands a b with h | ⟨y, h⟩
    · rw [h]; omega
    · rw [h, List.length_append, List.length_singleton] at h3 ⊢
      omega
  · rw [if_neg h3] at he
    exact absurd he (by decide)
theorem andF_bad {g : G} {a b : Int} (he : (andF g a b).2.2 ≠ 0) : (andF g a b).1 = g00_ ∧ (andF g a b).2.1 = 0 := by
  unfold andF at he ⊢
  split
  · exact ⟨rfl, rfl⟩
  · rename_i h1
    rw [if_neg h1] at he
    split
    · exact ⟨rfl, rfl⟩
    · rename_i h2
      rw [if_neg h2] at he
      split
      · rename_i h3
        rw [if_pos h3] at he
        exact absurd rfl he
      · exact ⟨rfl, rfl⟩
theorem AF.xok {g x : G} {a b c : Int} (h : AF g x a b c) : x.Ok ∧ x.first = g.first ∧ g.top ≤ x.top := by
  obtain ⟨hok, ⟨l1, l2, l3, l4⟩, ha, hb, rfl, rfl, ht⟩ := h
  have e1 : g.first = 1 + g.ins + g.next.length := rfl
  have e2 : g.top = g.ins + g.next.length + g.ands.length := rfl
  have hle : g.ands.length ≤ (andG g.first g.ands a b).1.length := by
    rcases andG_len g.first g.ands a b with h | ⟨y, h⟩ <;> rw [h]
    · exact Nat.le_refl _
    · rw [List.length_append]
      exact Nat.le_add_right _ _
  have htt : g.top ≤ ({ g with ands := (andG g.first g.ands a b).1 } : G).top := by
    show _ ≤ g.ins + (g.next.length : Int) + ((andG g.first g.ands a b).1.length : Nat)
    omega
  have mono : ∀ y, litOk y g.top = true → litOk y ({ g with ands := (andG g.first g.ands a b).1 } : G).top = true := fun y hy => by
    have := of_decide_eq_true hy
    exact decide_eq_true (by omega)
  refine ⟨⟨hok.len, hok.i, fun k y hy => ?_, fun y hy => mono y (hok.n y hy), fun y hy => mono y (hok.o y hy)⟩, rfl, htt⟩
  obtain ⟨⟨c1, c2⟩, c3, c4⟩ := andG_ok (first := g.first) (l := g.ands) (a := a) (b := b) (by omega) (by omega) (by omega) (hok.aok l1) k y hy
  exact ⟨decide_eq_true (by show 0 ≤ y.1 ∧ y.1 ≤ 2 * (g.first + k - 1) + 1; omega), decide_eq_true (by show 0 ≤ y.2 ∧ y.2 ≤ 2 * (g.first + k - 1) + 1; omega)⟩
theorem check_of_ok {g : G} (h : g.Ok) (hl : 0 ≤ g.ins ∧ g.ins ≤ 4000 ∧ g.top ≤ 4000 ∧ (g.outs.length : Int) ≤ 4000) : checkG g = 0 := (checkG_eq g (by omega)).1 h
theorem AF.chk {g x : G} {a b c : Int} (h : AF g x a b c) : checkG g = 0 ∧ checkG x = 0 := by
  refine ⟨check_of_ok h.gk h.gl, check_of_ok h.xok.1 ?_⟩
  obtain ⟨_, l, _, _, rfl, _, ht⟩ := h
  exact ⟨l.1, l.2.1, ht, l.2.2.2⟩
theorem litV_app {v t : List Bool} {a : Int} (ha : 0 ≤ a ∧ a / 2 < v.length) : litV (v ++ t) a = litV v a := by
  unfold litV
  rw [List.getD_eq_getElem?_getD, List.getD_eq_getElem?_getD, List.getElem?_append_left (by omega)]
theorem vf_pre : ∀ (l : List (Int × Int)) (v : List Bool), ∃ t, l.foldl vstep v = v ++ t
  | [], v => ⟨[], (List.append_nil v).symm⟩
  | x :: l, v => by
    obtain ⟨t, ht⟩ := vf_pre l (vstep v x)
    exact ⟨[litV v x.1 && litV v x.2] ++ t, by rw [List.foldl_cons, ht, vstep, List.append_assoc]⟩
theorem vals_at {g : G} (hok : g.Ok) (hi : 0 ≤ g.ins) {state ins : List Bool} (hs : state.length = g.next.length ∧ (ins.length : Int) = g.ins) {k : Nat} {x : Int × Int} (hx : g.ands[k]? = some x) :
    (valsG g state ins).getD (g.first + k).toNat false = (litV (valsG g state ins) x.1 && litV (valsG g state ins) x.2) := by
  have e1 : g.first = 1 + g.ins + g.next.length := rfl
  have hk := (List.getElem?_eq_some_iff.1 hx).1
  obtain ⟨⟨a1, a2⟩, a3, a4⟩ := hok.aok hi k x hx
  have hsp : g.ands = g.ands.take k ++ x :: g.ands.drop (k + 1) := by
    conv => lhs; rw [← List.take_append_drop k g.ands, List.drop_eq_getElem_cons hk]
    rw [List.getElem?_eq_getElem hk] at hx
    rw [Option.some.inj hx]
  have hv : valsG g state ins = (x :: g.ands.drop (k + 1)).foldl vstep ((g.ands.take k).foldl vstep (false :: (ins ++ state))) := by
    unfold valsG
    conv => lhs; rw [hsp]
    rw [List.foldl_append]
  have hp : ((g.ands.take k).foldl vstep (false :: (ins ++ state))).length = (g.first + k).toNat := by
    rw [vfold_len, List.length_cons, List.length_append, List.length_take]
    omega
  generalize (g.ands.take k).foldl vstep (false :: (ins ++ state)) = P at hv hp
  obtain ⟨t, ht⟩ := vf_pre (g.ands.drop (k + 1)) (vstep P x)
  rw [List.foldl_cons, ht, vstep, List.append_assoc] at hv
  rw [hv, litV_app ⟨a1, by omega⟩, litV_app ⟨a3, by omega⟩, List.getD_eq_getElem?_getD, List.getElem?_append_right (by omega), hp, Nat.sub_self]
  rfl
theorem litV_even (v : List Bool) (n : Int) : litV v (2 * n) = v.getD n.toNat false := by
  unfold litV
  rw [show 2 * n / 2 = n by omega, decide_eq_false (show ¬ 2 * n % 2 = 1 by omega)]
  cases v.getD n.toNat false <;> rfl
theorem ixI_get {α : Type} {p : α → Bool} {l : List α} (h : 0 ≤ ixI p l) : ∃ x, l[(ixI p l).toNat]? = some x ∧ p x = true := by
  unfold ixI at h ⊢
  cases hf : l.findIdx? p with
  | none => rw [hf] at h; exact absurd h (by decide)
  | some k =>
    obtain ⟨hk, hp, _⟩ := List.findIdx?_eq_some_iff_getElem.1 hf
    exact ⟨l[k], List.getElem?_eq_getElem hk, hp⟩
theorem idxP_get {l : List (Int × Int)} {x : Int × Int} (h : 0 ≤ idxP l x) : l[(idxP l x).toNat]? = some x := by
  obtain ⟨y, hy, hp⟩ := ixI_get h
  obtain ⟨h1, h2⟩ := of_decide_eq_true hp
  have e : x = y := Prod.ext h1 h2
  subst e
  exact hy
theorem idxP_new {l : List (Int × Int)} {x : Int × Int} (h : ¬ 0 ≤ idxP l x) : idxP (l ++ [x]) x = l.length := by
  unfold idxP ixI at h ⊢
  rw [List.findIdx?_append]
  cases hf : l.findIdx? fun y => decide (x.1 = y.1 ∧ x.2 = y.2) with
  | some k => rw [hf] at h; exact absurd (Int.natCast_nonneg k) h
  | none => simp
theorem andG_again (first : Int) (l : List (Int × Int)) (a b : Int) : andG first (andG first l a b).1 a b = andG first l a b := by
  unfold andG
  cases hp : plainP (max a b) (min a b) with
  | some r => rfl
  | none =>
    dsimp only
    by_cases hi : 0 ≤ idxP l (max a b, min a b)
    · rw [if_pos hi]
      dsimp only
      rw [if_pos hi]
    · rw [if_neg hi]
      dsimp only
      rw [idxP_new hi, if_pos (by omega)]
theorem and_sem {g x : G} {a b c : Int} (h : AF g x a b c) {state ins : List Bool} (hs : state.length = g.next.length ∧ (ins.length : Int) = g.ins) :
    (∃ t, valsG x state ins = valsG g state ins ++ t) ∧ litV (valsG x state ins) c = (litV (valsG g state ins) a && litV (valsG g state ins) b) := by
  obtain ⟨hok, ⟨l1, l2, l3, l4⟩, ⟨a1, a2⟩, ⟨b1, b2⟩, rfl, rfl, ht⟩ := h
  have e1 : g.first = 1 + g.ins + g.next.length := rfl
  have e2 : g.top = g.ins + g.next.length + g.ands.length := rfl
  have hat := fun k x => vals_at hok l1 hs (k := k) (x := x)
  have hvl := valsG_length g state ins
  have hv0 : (valsG g state ins).getD 0 false = false := by
    obtain ⟨t, ht⟩ := vf_pre g.ands (false :: (ins ++ state))
    unfold valsG
    rw [ht]
    rfl
  have hmm : (litV (valsG g state ins) (max a b) && litV (valsG g state ins) (min a b)) = (litV (valsG g state ins) a && litV (valsG g state ins) b) := by
    by_cases hab : a ≤ b
    · rw [Int.max_eq_right hab, Int.min_eq_left hab, Bool.and_comm]
    · rw [Int.max_eq_left (by omega), Int.min_eq_right (by omega)]
  have hw : ∀ y, valsG { g with ands := g.ands ++ [y] } state ins = valsG g state ins ++ [litV (valsG g state ins) y.1 && litV (valsG g state ins) y.2] := fun y => by
    unfold valsG
    rw [List.foldl_append]
    rfl
  rw [← hmm]
  clear ht
  generalize hV : valsG g state ins = V at *
  have hM : 0 ≤ max a b ∧ 0 ≤ min a b := by omega
  have hM2 : max a b ≤ 2 * g.top + 1 ∧ min a b ≤ 2 * g.top + 1 := by omega
  unfold andG
  generalize max a b = M at *
  generalize min a b = m at *
  have z0 : litV V 0 = false := by
    rw [show (0 : Int) = 2 * 0 from rfl, litV_even]
    exact hv0
  cases hp : plainP M m with
  | some r =>
    show (∃ t, valsG g state ins = V ++ t) ∧ litV (valsG g state ins) r = _
    rw [hV]
    refine ⟨⟨[], (List.append_nil V).symm⟩, ?_⟩
    unfold plainP at hp
    split at hp
    · rename_i c1
      cases hp
      rcases c1 with rfl | ⟨h1, h2⟩
      · rw [z0, Bool.and_false]
      · rw [z0]
        unfold litV
        rw [h1]
        rcases (by omega : (M % 2 = 1 ∧ m % 2 = 0) ∨ (M % 2 = 0 ∧ m % 2 = 1)) with ⟨h3, h4⟩ | ⟨h3, h4⟩
        · rw [h3, h4]
          cases V.getD (m / 2).toNat false <;> rfl
        · rw [h3, h4]
          cases V.getD (m / 2).toNat false <;> rfl
    · split at hp
      · rename_i c2
        cases hp
        rcases c2 with rfl | rfl
        · have : litV V 1 = true := by
            unfold litV
            rw [show ((1 : Int) / 2).toNat = 0 from rfl, hv0]
            rfl
          rw [this, Bool.and_true]
        · rw [Bool.and_self]
      · cases hp
  | none =>
    by_cases hi : 0 ≤ idxP g.ands (M, m)
    · simp only [if_pos hi]
      show (∃ t, valsG g state ins = V ++ t) ∧ litV (valsG g state ins) _ = _
      rw [hV]
      refine ⟨⟨[], (List.append_nil V).symm⟩, ?_⟩
      have hk := hat _ _ (idxP_get hi)
      rw [litV_even, ← hk, show ((idxP g.ands (M, m)).toNat : Int) = idxP g.ands (M, m) by omega]
    · simp only [if_neg hi]
      rw [hw (M, m)]
      refine ⟨⟨_, rfl⟩, ?_⟩
      rw [litV_even, List.getD_eq_getElem?_getD, List.getElem?_append_right (by omega), show (g.first + (g.ands.length : Int)).toNat - V.length = 0 by omega]
      rfl
end Go.Proofs.Ytpbfkpdfodmcaaa
