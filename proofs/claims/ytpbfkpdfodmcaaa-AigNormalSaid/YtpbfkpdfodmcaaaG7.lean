import Derived.Test.YtpbfkpdfodmcaaaG6
namespace Go.Proofs.Ytpbfkpdfodmcaaa
open Go.RowKit
set_option maxRecDepth 100000
set_option linter.unusedSimpArgs false
variable (Hy : World → Prop)
attribute [local irreducible] runM runD cwp seqQ blkQ lpQ retQ asQ bdQ
theorem andG_bd {first a b : Int} {l : List (Int × Int)} (hf : 1 ≤ first) (ha : 0 ≤ a ∧ a ≤ 2 * (first + l.length) - 1) (hb : 0 ≤ b ∧ b ≤ 2 * (first + l.length) - 1) :
    l.length ≤ (andG first l a b).1.length ∧ (andG first l a b).1.length ≤ l.length + 1 ∧ 0 ≤ (andG first l a b).2 ∧ (andG first l a b).2 ≤ 2 * (first + (andG first l a b).1.length) - 1 := by
  unfold andG
  cases hp : plainP (max a b) (min a b) with
  | some r =>
    unfold plainP at hp
    split at hp
    · cases hp
      exact ⟨Nat.le_refl _, Nat.le_succ _, Int.le_refl _, by dsimp only; omega⟩
    · split at hp
      · cases hp
        exact ⟨Nat.le_refl _, Nat.le_succ _, by dsimp only; omega, by dsimp only; omega⟩
      · cases hp
  | none =>
    dsimp only
    have hil := idxP_lt (l := l) (a := (max a b, min a b))
    split
    · exact ⟨Nat.le_refl _, Nat.le_succ _, by dsimp only; omega, by dsimp only; omega⟩
    · simp only [List.length_append, List.length_singleton]
      omega
theorem litB_bd {to : List Int} {x N : Int} (hx : 0 ≤ x ∧ x / 2 < to.length) (ht : ∀ y ∈ to, 0 ≤ y ∧ y ≤ 2 * N - 1) : 0 ≤ litB to x ∧ litB to x ≤ 2 * N - 1 := by
  obtain ⟨y, hy⟩ : ∃ y, to[(x / 2).toNat]? = some y := ⟨_, List.getElem?_eq_getElem (by omega)⟩
  have := ht y (List.mem_of_getElem? hy)
  unfold litB xr
  rw [List.getD_eq_getElem?_getD, hy, Option.getD_some]
  split
  · exact this
  · split <;> omega
/-- ands made anew, after so many of those that were -/
def bldS (first : Int) (l : List (Int × Int)) (keep : Nat → Bool) : Nat → List (Int × Int) × List Int
  | 0 => ([], to0 first.toNat)
  | k + 1 => if keep k = true then ((andG first (bldS first l keep k).1 (litB (bldS first l keep k).2 (l.getD k (0, 0)).1) (litB (bldS first l keep k).2 (l.getD k (0, 0)).2)).1,
      (bldS first l keep k).2 ++ [(andG first (bldS first l keep k).1 (litB (bldS first l keep k).2 (l.getD k (0, 0)).1) (litB (bldS first l keep k).2 (l.getD k (0, 0)).2)).2])
    else ((bldS first l keep k).1, (bldS first l keep k).2 ++ [0])
/-- both literals of each and are of numbers before it -/
def AOk (first : Int) (l : List (Int × Int)) : Prop := ∀ (k : Nat) x, l[k]? = some x → (0 ≤ x.1 ∧ x.1 / 2 < first + k) ∧ (0 ≤ x.2 ∧ x.2 / 2 < first + k)
structure BS (first : Int) (k : Nat) (s : List (Int × Int) × List Int) : Prop where
  len : s.2.length = first.toNat + k
  few : s.1.length ≤ k
  bd : ∀ x ∈ s.2, 0 ≤ x ∧ x ≤ 2 * (first + s.1.length) - 1
  ok : AOk first s.1
theorem andG_ok {first a b : Int} {l : List (Int × Int)} (_ : 1 ≤ first) (ha : 0 ≤ a ∧ a ≤ 2 * (first + l.length) - 1) (hb : 0 ≤ b ∧ b ≤ 2 * (first + l.length) - 1) (hl : AOk first l) : AOk first (andG first l a b).1 := by
  unfold andG
  split
  · exact hl
  · split
    · exact hl
    · intro k x hx
      by_cases hk : k < l.length
      · rw [List.getElem?_append_left hk] at hx
        exact hl k x hx
      · rw [List.getElem?_append_right (by omega)] at hx
        have hk0 : k - l.length = 0 := by
          have := (List.getElem?_eq_some_iff.1 hx).1
          simp at this
          omega
        rw [hk0] at hx
        cases hx
        dsimp only
        omega
theorem bldS_ok {first : Int} {l : List (Int × Int)} {keep : Nat → Bool} (hf : 1 ≤ first) (ha : AOk first l) : ∀ k, k ≤ l.length → BS first k (bldS first l keep k)
  | 0, _ => ⟨by simp [bldS, to0_len], Nat.le_refl _, fun x hx => by
      obtain ⟨i, hi, rfl⟩ := List.mem_map.1 hx
      have := List.mem_range.1 hi
      simp only [bldS, List.length_nil]
      omega, fun k x hx => by simp [bldS] at hx⟩
  | k + 1, hk => by
    obtain ⟨h1, h2, h3, h4⟩ := bldS_ok (keep := keep) hf ha k (by omega)
    obtain ⟨x, hx⟩ : ∃ x, l[k]? = some x := ⟨_, List.getElem?_eq_getElem (by omega)⟩
    have hg : l.getD k (0, 0) = x := by rw [List.getD_eq_getElem?_getD, hx]; rfl
    obtain ⟨⟨a1, a2⟩, a3, a4⟩ := ha k x hx
    unfold bldS
    rw [hg]
    generalize bldS first l keep k = s at *
    have b1 := litB_bd (x := x.1) ⟨a1, by omega⟩ h3
    have b2 := litB_bd (x := x.2) ⟨a3, by omega⟩ h3
    split
    · obtain ⟨c1, c2, c3, c4⟩ := andG_bd hf b1 b2
      refine ⟨?_, ?_, fun y hy => ?_, andG_ok hf b1 b2 h4⟩
      · show (s.2 ++ _).length = _
        rw [List.length_append, List.length_singleton, h1]
        omega
      · show (andG _ _ _ _).1.length ≤ _
        omega
      · show 0 ≤ y ∧ y ≤ 2 * (first + ((andG _ _ _ _).1.length : Nat)) - 1
        rcases List.mem_append.1 hy with hy | hy
        · have := h3 y hy
          omega
        · obtain rfl := List.mem_singleton.1 hy
          exact ⟨c3, c4⟩
    · refine ⟨?_, ?_, fun y hy => ?_, h4⟩
      · show (s.2 ++ _).length = _
        rw [List.length_append, List.length_singleton, h1]
        omega
      · show s.1.length ≤ _
        omega
      · show 0 ≤ y ∧ y ≤ 2 * (first + (s.1.length : Nat)) - 1
        rcases List.mem_append.1 hy with hy | hy
        · exact h3 y hy
        · obtain rfl := List.mem_singleton.1 hy
          omega
theorem G.Ok.aok {g : G} (h : g.Ok) (_ : 0 ≤ g.ins) : AOk g.first g.ands := fun k x hx => by
  obtain ⟨a1, a2⟩ := h.a k x hx
  replace a1 := of_decide_eq_true a1
  replace a2 := of_decide_eq_true a2
  omega
/-- what the builder comes to -/
def bldG (g : G) (keep : Nat → Bool) : G := ⟨g.ins, g.next.map (litB (bldS g.first g.ands keep g.ands.length).2), g.init, (bldS g.first g.ands keep g.ands.length).1, g.outs.map (litB (bldS g.first g.ands keep g.ands.length).2)⟩
def closeG (g : G) : G := bldG g fun k => (ledL g).getD (g.first + k).toNat false
def normG (g : G) : G := closeG (bldG g fun _ => true)
theorem bldG_ok {g : G} (keep : Nat → Bool) (h : g.Ok) (hi : 0 ≤ g.ins) : (bldG g keep).Ok ∧ (bldG g keep).top ≤ g.top ∧ (bldG g keep).first = g.first := by
  have hf : 1 ≤ g.first := by unfold G.first; omega
  have e1 : g.first = 1 + g.ins + g.next.length := rfl
  have e2 : g.top = g.ins + g.next.length + g.ands.length := rfl
  obtain ⟨b1, b2, b3, b4⟩ := bldS_ok (keep := keep) hf (h.aok hi) g.ands.length (Nat.le_refl _)
  have k1 : (bldG g keep).first = g.first := by show 1 + g.ins + ((g.next.map _).length : Int) = _; rw [List.length_map]; rfl
  have k2 : (bldG g keep).top = g.first - 1 + (bldS g.first g.ands keep g.ands.length).1.length := by
    show g.ins + ((g.next.map _).length : Int) + _ = _
    rw [List.length_map]
    show g.ins + (g.next.length : Int) + ((bldS g.first g.ands keep g.ands.length).1.length : Nat) = _
    omega
  have lit : ∀ l : List Int, (∀ x ∈ l, litOk x g.top = true) → ∀ y ∈ l.map (litB (bldS g.first g.ands keep g.ands.length).2), litOk y (bldG g keep).top = true := fun l hl y hy => by
    obtain ⟨x, hx, rfl⟩ := List.mem_map.1 hy
    have hx2 := of_decide_eq_true (hl x hx)
    have := litB_bd (x := x) ⟨hx2.1, by rw [b1]; omega⟩ b3
    refine decide_eq_true ?_
    rw [k2]
    omega
  refine ⟨⟨?_, h.i, fun k x hx => ?_, lit _ h.n, lit _ h.o⟩, by rw [k2]; omega, k1⟩
  · show g.init.length = (g.next.map _).length
    rw [List.length_map]
    exact h.len
  · obtain ⟨⟨c1, c2⟩, c3, c4⟩ := b4 k x hx
    rw [k1]
    exact ⟨decide_eq_true (by omega), decide_eq_true (by omega)⟩
theorem lits_of {g : G} {keep : Nat → Bool} (h : g.Ok) (hi : 0 ≤ g.ins) (ht : g.top ≤ 4000) {l : List Int} (hl : ∀ x ∈ l, litOk x g.top = true) : Lits (bldS g.first g.ands keep g.ands.length).2.length l := fun x hx => by
  have hf : 1 ≤ g.first := by unfold G.first; omega
  have hb := (bldS_ok (keep := keep) hf (h.aok hi) g.ands.length (Nat.le_refl _)).len
  have := of_decide_eq_true (hl x hx)
  have e1 : g.first = 1 + g.ins + g.next.length := rfl
  have e2 : g.top = g.ins + g.next.length + g.ands.length := rfl
  rw [hb]
  omega
structure ClI (g : G) (nb k1 km kk : Nat) (s : List (Int × Int) × List Int) (oc : Nat → O) : Prop where
  bl : Bld oc nb k1 km kk g.ins g.first g.next g.init s.1 s.2
  b1 : oc 1 = ⟨1, .cells 25 g.cells⟩
  b2 : oc 2 = ⟨1, .cells 25 [.t (.i .i64 0), .nilS, .nilS, .nilS, .nilS]⟩
set_option maxHeartbeats 4000000 in
theorem closeUp_ct (g : G) (hok : g.Ok) (hl : 0 ≤ g.ins ∧ g.ins ≤ 4000 ∧ g.top ≤ 4000 ∧ (g.outs.length : Int) ≤ 4000) : Ct Try.prog Hy 58 [g.t] [(closeG g).t] := by
  obtain ⟨l1, l2, l3, l4⟩ := hl
  have hlen := hok.len
  have e1 : g.first = 1 + g.ins + g.next.length := rfl
  have e2 : g.top = g.ins + g.next.length + g.ands.length := rfl
  have hfa := firstAnd_ct Hy g (by omega)
  rw [← e1] at hfa
  have hled := led_ct Hy g hok (by omega)
  have hll := ledL_len g
  obtain ⟨M, hM⟩ : ∃ M, M = ledL g := ⟨_, rfl⟩
  obtain ⟨keep, hkeep⟩ : ∃ keep : Nat → Bool, keep = fun k : Nat => M.getD (g.first + (k : Int)).toNat false := ⟨_, rfl⟩
  have hgo : closeG g = bldG g keep := by rw [hkeep, hM]; rfl
  rw [← hM] at hled hll
  rw [hgo]
  refine ct_of (cls := _root_.id) tt_ok follows_ Try.func58 rfl (by decide) (Nat.le_of_ble_eq_true rfl) ?_
  rw [show Try.f58.ntmps = 63 from rfl, s0_nf]
  simp only [List.zipIdx_cons, List.zipIdx_nil, List.map_cons, List.map_nil, Nat.reduceAdd, G.t, iL, pL]
  repeat' first | refine c_seq ?_ | refine c_reg' rfl fun K hK => ?_ | (refine r_opN fun κ η => ?_; simp only [go_sem, Nat.reduceLT, Nat.reduceEqDiff, Nat.reduceAdd, Nat.reduceMul, Nat.reduceLeDiff, Nat.le_refl, reduceIte, reduceCtorEq]; refine η _ ?_; clear η κ) | (refine r_nil (hK _ ?_); clear hK K) | refine q_seq ?_
  refine r_opN fun κ η => ?_; simp only [go_sem, Nat.reduceLT, Nat.reduceEqDiff, Nat.reduceAdd, Nat.reduceMul, Nat.reduceLeDiff, Nat.le_refl, reduceIte, reduceCtorEq, G.t, iL, pL, bL]; refine ⟨_, hled, ?_⟩; simp only [go_sem, Nat.reduceLT, Nat.reduceEqDiff, Nat.reduceAdd, Nat.reduceMul, Nat.reduceLeDiff, Nat.le_refl, reduceIte, reduceCtorEq, G.t, iL, pL, bL]; refine η _ ?_; clear η κ
  repeat' first | refine c_seq ?_ | refine c_reg' rfl fun K hK => ?_ | (refine r_opN fun κ η => ?_; simp only [go_sem, Nat.reduceLT, Nat.reduceEqDiff, Nat.reduceAdd, Nat.reduceMul, Nat.reduceLeDiff, Nat.le_refl, reduceIte, reduceCtorEq]; refine η _ ?_; clear η κ) | (refine r_nil (hK _ ?_); clear hK K) | refine q_seq ?_
  refine r_call fun κ η => ?_; simp only [go_sem, Nat.reduceLT, Nat.reduceEqDiff, Nat.reduceAdd, Nat.reduceMul, Nat.reduceLeDiff, Nat.le_refl, reduceIte, reduceCtorEq, G.cells, iL, pL]; refine ⟨_, newBuilder_cm Hy g _ mlaw84 ⟨l1, l2⟩ (by omega) hfa, ?_⟩; rintro _ o2 ⟨nb, k1, km, kk, rfl, hB, hfr⟩; simp only [go_sem, Nat.reduceLT, Nat.reduceEqDiff, Nat.reduceAdd, Nat.reduceMul, Nat.reduceLeDiff, Nat.le_refl, reduceIte, reduceCtorEq, G.cells, iL, pL]; refine η _ ?_; clear η κ
  have h1 : o2 1 = ⟨1, .cells 25 g.cells⟩ := hfr 1 (by decide)
  have h2 : o2 2 = ⟨1, .cells 25 [.t (.i .i64 0), .nilS, .nilS, .nilS, .nilS]⟩ := hfr 2 (by decide)
  have h1' := h1
  simp only [G.cells, iL, pL] at h1'
  clear hfr
  repeat' first | refine c_seq ?_ | refine c_block ?_ | refine c_reg' rfl fun K hK => ?_ | (refine r_opN fun κ η => ?_; simp only [go_sem, Nat.reduceLT, Nat.reduceEqDiff, Nat.reduceAdd, Nat.reduceMul, Nat.reduceLeDiff, Nat.le_refl, reduceIte, reduceCtorEq, h1']; (repeat refine ⟨by omega, ?_⟩); refine η _ ?_; clear η κ) | (refine r_nil (hK _ ?_); clear hK K) | refine q_seq ?_
  refine c_loop (fun m s' => ∃ i : Nat, m = g.ands.length - i ∧ i ≤ g.ands.length ∧ ∃ F oc k1 kk, s' = nf 63 F oc [(1, .ptr 1 1 0), (2, .ptr 2 1 0), (3, .t (bL M)), (4, .ptr 900 nb 0), (13, .t (pL g.ands)), (14, .t (.i .i64 g.ands.length)), (15, .t (.i .i64 i))] [] ∧ ClI g nb k1 km kk (bldS g.first g.ands keep i) oc) g.ands.length ?_ ?_
  · exact ⟨0, by omega, by omega, _, _, _, _, nf_of rfl ⟨rfl, rfl, rfl, rfl, rfl, rfl, rfl, trivial⟩ trivial, hB, h1, h2⟩
  clear hB h1 h2 h1' k1 kk
  rintro m s' ⟨i, rfl, hi, F, oc, k1, kk, rfl, hB, h1, h2⟩
  have h1' := h1
  simp only [G.cells, iL, pL] at h1'
  simp only [pL, bL]
  repeat' first | refine c_seq ?_ | refine c_reg' rfl fun K hK => ?_ | (refine r_opN fun κ η => ?_; simp only [go_sem, Nat.reduceLT, Nat.reduceEqDiff, Nat.reduceAdd, Nat.reduceMul, Nat.reduceLeDiff, Nat.le_refl, reduceIte, reduceCtorEq]; refine η _ ?_; clear η κ) | (refine r_nil (hK _ ?_); clear hK K) | refine q_seq ?_
  refine c_cond _ rfl (fun hq => ?_) (fun hq => ?_)
  · simp only [decide_eq_true_eq] at hq
    obtain ⟨x, hx⟩ : ∃ x, g.ands[i]? = some x := ⟨_, List.getElem?_eq_getElem (by omega)⟩
    obtain ⟨⟨x1, x2⟩, x3, x4⟩ := hok.aok l1 i x hx
    obtain ⟨b1, b2, b3, _⟩ := bldS_ok (keep := keep) (by omega) (hok.aok l1) i (by omega)
    have hky : keep i = M.getD (g.first + i).toNat false := by rw [hkeep]
    obtain ⟨y, hy⟩ : ∃ y, M[(g.first + i).toNat]? = some y := ⟨_, List.getElem?_eq_getElem (by omega)⟩
    rw [List.getD_eq_getElem?_getD, hy, Option.getD_some] at hky
    have hsu : bldS g.first g.ands keep (i + 1) = if keep i = true then ((andG g.first (bldS g.first g.ands keep i).1 (litB (bldS g.first g.ands keep i).2 x.1) (litB (bldS g.first g.ands keep i).2 x.2)).1,
      (bldS g.first g.ands keep i).2 ++ [(andG g.first (bldS g.first g.ands keep i).1 (litB (bldS g.first g.ands keep i).2 x.1) (litB (bldS g.first g.ands keep i).2 x.2)).2]) else ((bldS g.first g.ands keep i).1, (bldS g.first g.ands keep i).2 ++ [0]) := by
      conv => lhs; unfold bldS
      rw [List.getD_eq_getElem?_getD, hx, Option.getD_some]
    generalize bldS g.first g.ands keep i = s at *
    have c1 := litB_bd (x := x.1) ⟨x1, by omega⟩ b3
    have c2 := litB_bd (x := x.2) ⟨x3, by omega⟩ b3
    have b4 : ∀ y ∈ s.2, 0 ≤ y ∧ y ≤ 1000000 := fun y hy => by have := b3 y hy; omega
    repeat' first | refine c_seq ?_ | refine c_block ?_ | refine c_reg' rfl fun K hK => ?_ | (refine r_opN fun κ η => ?_; simp only [go_sem, Nat.reduceLT, Nat.reduceEqDiff, Nat.reduceAdd, Nat.reduceMul, Nat.reduceLeDiff, Nat.le_refl, reduceIte, reduceCtorEq, hx, h1']; (repeat refine ⟨by omega, ?_⟩); refine η _ ?_; clear η κ) | (refine r_nil (hK _ ?_); clear hK K) | refine q_seq ?_ | refine c_skip ?_
    refine r_opN fun κ η => ?_; simp only [go_sem, Nat.reduceLT, Nat.reduceEqDiff, Nat.reduceAdd, Nat.reduceMul, Nat.reduceLeDiff, Nat.le_refl, reduceIte, reduceCtorEq, G.t, iL, pL]; refine ⟨_, hfa, ?_⟩; simp only [go_sem, Nat.reduceLT, Nat.reduceEqDiff, Nat.reduceAdd, Nat.reduceMul, Nat.reduceLeDiff, Nat.le_refl, reduceIte, reduceCtorEq, G.t, iL, pL]; refine η _ ?_; clear η κ
    repeat' first | (refine r_opN fun κ η => ?_; simp only [go_sem, Nat.reduceLT, Nat.reduceEqDiff, Nat.reduceAdd, Nat.reduceMul, Nat.reduceLeDiff, Nat.le_refl, reduceIte, reduceCtorEq, hy]; (repeat refine ⟨by omega, ?_⟩); refine η _ ?_; clear η κ) | (refine r_nil (hK _ ?_); clear hK K) | refine q_seq ?_
    refine c_cond _ rfl (fun hq2 => ?_) (fun hq2 => ?_)
    · rw [if_pos (hky.trans hq2)] at hsu
      repeat' first | refine c_draw' rfl (by kernel_rfl) fun K hK => ?_ | (refine d_opN (by kernel_rfl) fun κ η => ?_; simp only [go_sem, Nat.reduceLT, Nat.reduceEqDiff, Nat.reduceAdd, Nat.reduceMul, Nat.reduceLeDiff, Nat.le_refl, reduceIte, reduceCtorEq]; (repeat refine ⟨by omega, ?_⟩); refine η _ ?_; clear η κ)
      refine d_call (R := [900, 903]) (W := []) (by kernel_rfl) fun κ η => ?_; simp only [go_sem, Nat.reduceLT, Nat.reduceEqDiff, Nat.reduceAdd, Nat.reduceMul, Nat.reduceLeDiff, Nat.le_refl, reduceIte, reduceCtorEq]; refine ⟨_, _, ?wr_, lit_cd Hy x.1 (by exact hB.b) (by exact hB.tl) ⟨x1, by omega⟩ (by omega) b4 (by simp), ?_⟩; (case wr_ => rfl); (try simp only [go_sem, Nat.reduceLT, Nat.reduceEqDiff, Nat.reduceAdd, Nat.reduceMul, Nat.reduceLeDiff, Nat.le_refl, reduceIte, reduceCtorEq]); refine η _ ?_; clear η κ
      repeat' (refine d_opN (by kernel_rfl) fun κ η => ?_; simp only [go_sem, Nat.reduceLT, Nat.reduceEqDiff, Nat.reduceAdd, Nat.reduceMul, Nat.reduceLeDiff, Nat.le_refl, reduceIte, reduceCtorEq]; (repeat refine ⟨by omega, ?_⟩); refine η _ ?_; clear η κ)
      refine d_call (R := [900, 903]) (W := []) (by kernel_rfl) fun κ η => ?_; simp only [go_sem, Nat.reduceLT, Nat.reduceEqDiff, Nat.reduceAdd, Nat.reduceMul, Nat.reduceLeDiff, Nat.le_refl, reduceIte, reduceCtorEq]; refine ⟨_, _, ?wr_, lit_cd Hy x.2 (by exact hB.b) (by exact hB.tl) ⟨x3, by omega⟩ (by omega) b4 (by simp), ?_⟩; (case wr_ => rfl); (try simp only [go_sem, Nat.reduceLT, Nat.reduceEqDiff, Nat.reduceAdd, Nat.reduceMul, Nat.reduceLeDiff, Nat.le_refl, reduceIte, reduceCtorEq]); refine η _ ?_; clear η κ
      repeat' (refine d_opN (by kernel_rfl) fun κ η => ?_; simp only [go_sem, Nat.reduceLT, Nat.reduceEqDiff, Nat.reduceAdd, Nat.reduceMul, Nat.reduceLeDiff, Nat.le_refl, reduceIte, reduceCtorEq]; refine η _ ?_; clear η κ)
      refine d_call (R := [903]) (W := [900, 901, 902, 1009, 1047]) (by kernel_rfl) fun κ η => ?_; simp only [go_sem, Nat.reduceLT, Nat.reduceEqDiff, Nat.reduceAdd, Nat.reduceMul, Nat.reduceLeDiff, Nat.le_refl, reduceIte, reduceCtorEq, upAnd]; refine ⟨_, _, ?wr_, band_cd Hy _ _ (by exact ⟨hB.b, hB.an, hB.mp, hB.tl, hB.fi⟩) ⟨⟨l1, l2⟩, by omega, by omega, by omega⟩ mlaw84 (by omega) (by omega) (by simp), ?_⟩; (case wr_ => rfl); (try simp only [go_sem, Nat.reduceLT, Nat.reduceEqDiff, Nat.reduceAdd, Nat.reduceMul, Nat.reduceLeDiff, Nat.le_refl, reduceIte, reduceCtorEq, upAnd]); refine η _ ?_; clear η κ
      repeat' first | refine c_reg' rfl fun K hK => ?_ | ((first | refine r_opN fun κ η => ?_ | refine d_opN (by kernel_rfl) fun κ η => ?_); simp only [go_sem, Nat.reduceLT, Nat.reduceEqDiff, Nat.reduceAdd, Nat.reduceMul, Nat.reduceLeDiff, Nat.le_refl, reduceIte, reduceCtorEq]; refine η _ ?_; clear η κ) | refine q_seq ?_ | (refine d_nil (hK _ ?_); clear hK K)
      refine r_callD (R := []) (W := [2010, 900, 903]) fun κ η => ?_; simp only [go_sem, Nat.reduceLT, Nat.reduceEqDiff, Nat.reduceAdd, Nat.reduceMul, Nat.reduceLeDiff, Nat.le_refl, reduceIte, reduceCtorEq]; refine ⟨_, _, ?wr_, come_cd Hy _ (by exact rfl) (by exact hB.tl) (by omega) (by simp), ?_⟩; (case wr_ => rfl); (try simp only [go_sem, Nat.reduceLT, Nat.reduceEqDiff, Nat.reduceAdd, Nat.reduceMul, Nat.reduceLeDiff, Nat.le_refl, reduceIte, reduceCtorEq]); refine η _ ?_; clear η κ
      repeat' first | refine c_reg' rfl fun K hK => ?_ | (refine r_opN fun κ η => ?_; simp only [go_sem, Nat.reduceLT, Nat.reduceEqDiff, Nat.reduceAdd, Nat.reduceMul, Nat.reduceLeDiff, Nat.le_refl, reduceIte, reduceCtorEq]; (repeat refine ⟨by omega, ?_⟩); refine η _ ?_; clear η κ) | (refine r_nil (hK _ ?_); clear hK K) | refine q_seq ?_ | refine q_blk ?_ | refine q_lpN ?_
      refine ⟨g.ands.length - (i + 1), by omega, i + 1, rfl, by omega, _, _, k1 + ((andG g.first s.1 (litB s.2 x.1) (litB s.2 x.2)).1.length - s.1.length), kk + 1, nf_of rfl ⟨rfl, rfl, rfl, rfl, rfl, rfl, rfl, trivial⟩ trivial, ?_⟩
      rw [hsu]
      exact ⟨⟨rfl, rfl, rfl, rfl, hB.fi⟩, h1, h2⟩
    · rw [if_neg (by rw [hky, hq2]; exact Bool.false_ne_true)] at hsu
      repeat' first | refine c_reg' rfl fun K hK => ?_ | (refine r_opN fun κ η => ?_; simp only [go_sem, Nat.reduceLT, Nat.reduceEqDiff, Nat.reduceAdd, Nat.reduceMul, Nat.reduceLeDiff, Nat.le_refl, reduceIte, reduceCtorEq]; refine η _ ?_; clear η κ) | refine q_seq ?_ | refine c_skip ?_
      refine r_callD (R := []) (W := [2010, 900, 903]) fun κ η => ?_; simp only [go_sem, Nat.reduceLT, Nat.reduceEqDiff, Nat.reduceAdd, Nat.reduceMul, Nat.reduceLeDiff, Nat.le_refl, reduceIte, reduceCtorEq]; refine ⟨_, _, ?wr_, come_cd Hy _ (by exact hB.b) (by exact hB.tl) (by omega) (by simp), ?_⟩; (case wr_ => rfl); (try simp only [go_sem, Nat.reduceLT, Nat.reduceEqDiff, Nat.reduceAdd, Nat.reduceMul, Nat.reduceLeDiff, Nat.le_refl, reduceIte, reduceCtorEq]); refine η _ ?_; clear η κ
      repeat' first | refine c_reg' rfl fun K hK => ?_ | (refine r_opN fun κ η => ?_; simp only [go_sem, Nat.reduceLT, Nat.reduceEqDiff, Nat.reduceAdd, Nat.reduceMul, Nat.reduceLeDiff, Nat.le_refl, reduceIte, reduceCtorEq]; (repeat refine ⟨by omega, ?_⟩); refine η _ ?_; clear η κ) | (refine r_nil (hK _ ?_); clear hK K) | refine q_seq ?_ | refine q_blk ?_ | refine q_lpN ?_
      refine ⟨g.ands.length - (i + 1), by omega, i + 1, rfl, by omega, _, _, k1, kk + 1, nf_of rfl ⟨rfl, rfl, rfl, rfl, rfl, rfl, rfl, trivial⟩ trivial, ?_⟩
      rw [hsu]
      exact ⟨⟨rfl, hB.an, hB.mp, rfl, hB.fi⟩, h1, h2⟩
  · simp only [decide_eq_false_iff_not] at hq
    obtain rfl : i = g.ands.length := by omega
    have ln := lits_of (keep := keep) hok l1 l3 hok.n
    have lo := lits_of (keep := keep) hok l1 l3 hok.o
    obtain ⟨b1, b2, b3, _⟩ := bldS_ok (keep := keep) (by omega) (hok.aok l1) g.ands.length (Nat.le_refl _)
    unfold bldG at hgo ⊢
    generalize bldS g.first g.ands keep g.ands.length = s at *
    have b4 : ∀ y ∈ s.2, 0 ≤ y ∧ y ≤ 1000000 := fun y hy => by have := b3 y hy; omega
    repeat' first | refine c_seq ?_ | refine c_draw' rfl (by kernel_rfl) fun K hK => ?_ | (refine d_opN (by kernel_rfl) fun κ η => ?_; simp only [go_sem, Nat.reduceLT, Nat.reduceEqDiff, Nat.reduceAdd, Nat.reduceMul, Nat.reduceLeDiff, Nat.le_refl, reduceIte, reduceCtorEq, h1']; (repeat refine ⟨by omega, ?_⟩); refine η _ ?_; clear η κ) | refine q_seq ?_ | refine c_exit ?_ | refine q_seqE ?_ | refine q_blkHit ?_ | refine q_lpE ?_
    refine d_call (R := [900, 903]) (W := [3018, 3019]) (by kernel_rfl) fun κ η => ?_; simp only [go_sem, Nat.reduceLT, Nat.reduceEqDiff, Nat.reduceAdd, Nat.reduceMul, Nat.reduceLeDiff, Nat.le_refl, reduceIte, reduceCtorEq, iL]; refine ⟨_, _, ?wr_, map3_cd Hy g.next (by exact hB.b) (by exact hB.tl) (by omega) ln b4 (by simp), ?_⟩; (case wr_ => rfl); (try simp only [go_sem, Nat.reduceLT, Nat.reduceEqDiff, Nat.reduceAdd, Nat.reduceMul, Nat.reduceLeDiff, Nat.le_refl, reduceIte, reduceCtorEq, iL]); refine η _ ?_; clear η κ
    repeat' (refine d_opN (by kernel_rfl) fun κ η => ?_; simp only [go_sem, Nat.reduceLT, Nat.reduceEqDiff, Nat.reduceAdd, Nat.reduceMul, Nat.reduceLeDiff, Nat.le_refl, reduceIte, reduceCtorEq, h1']; (repeat refine ⟨by omega, ?_⟩); refine η _ ?_; clear η κ)
    refine d_call (R := [900, 903]) (W := [4018, 4019]) (by kernel_rfl) fun κ η => ?_; simp only [go_sem, Nat.reduceLT, Nat.reduceEqDiff, Nat.reduceAdd, Nat.reduceMul, Nat.reduceLeDiff, Nat.le_refl, reduceIte, reduceCtorEq, iL]; refine ⟨_, _, ?wr_, map4_cd Hy g.outs (by exact hB.b) (by exact hB.tl) (by omega) lo b4 (by simp), ?_⟩; (case wr_ => rfl); (try simp only [go_sem, Nat.reduceLT, Nat.reduceEqDiff, Nat.reduceAdd, Nat.reduceMul, Nat.reduceLeDiff, Nat.le_refl, reduceIte, reduceCtorEq, iL]); refine η _ ?_; clear η κ
    have hb := hB.b
    have ha := hB.an
    simp only [iL] at hb
    repeat' first | refine c_seq ?_ | refine c_reg' rfl fun K hK => ?_ | ((first | refine r_opN fun κ η => ?_ | refine d_opN (by kernel_rfl) fun κ η => ?_); simp only [go_sem, Nat.reduceLT, Nat.reduceEqDiff, Nat.reduceAdd, Nat.reduceMul, Nat.reduceLeDiff, Nat.le_refl, reduceIte, reduceCtorEq, hb, h2, ha, iL, G.t, pL]; (repeat refine ⟨by omega, ?_⟩); refine η _ ?_; clear η κ) | (refine r_nil (hK _ ?_); clear hK K) | refine q_seq ?_ | (refine d_nil (hK _ ?_); clear hK K) | refine c_ret ?_ | (refine q_ret ?_; refine q_rc ?_; simp only [go_sem, Nat.reduceLT, Nat.reduceEqDiff, Nat.reduceAdd, Nat.reduceMul, Nat.reduceLeDiff, Nat.le_refl, reduceIte, reduceCtorEq, hb, h2, ha, iL, G.t, pL])
end Go.Proofs.Ytpbfkpdfodmcaaa
namespace Go.Proofs.Ytpbfkpdfodmcaaa
open Go.RowKit
set_option maxRecDepth 100000
set_option linter.unusedSimpArgs false
variable (Hy : World → Prop)
attribute [local irreducible] runM runD cwp seqQ blkQ lpQ retQ asQ bdQ
set_option maxHeartbeats 4000000 in
theorem normal_ct (g : G) (h : g.Small) : Ct Try.prog Hy 16 [g.t] (if checkG g ≠ 0 then [g00_.t, .i .i64 (checkG g)] else [(normG g).t, .i .i64 0]) := by
  have hck := check_ct Hy g h
  obtain ⟨res, hres⟩ : ∃ res, res = if checkG g ≠ 0 then [g00_.t, T.i .i64 (checkG g)] else [(normG g).t, .i .i64 0] := ⟨_, rfl⟩
  rw [← hres]
  refine ct_of (cls := _root_.id) tt_ok follows_ Try.func16 rfl (by decide) (Nat.le_of_ble_eq_true rfl) ?_
  rw [show Try.f16.ntmps = 59 from rfl, s0_nf]
  simp only [List.zipIdx_cons, List.zipIdx_nil, List.map_cons, List.map_nil, Nat.reduceAdd, G.t, iL, pL]
  repeat' first | refine c_seq ?_ | refine c_reg' rfl fun K hK => ?_ | (refine r_opN fun κ η => ?_; simp only [go_sem, Nat.reduceLT, Nat.reduceEqDiff, Nat.reduceAdd, Nat.reduceMul, Nat.reduceLeDiff, Nat.le_refl, reduceIte, reduceCtorEq]; (repeat refine ⟨by omega, ?_⟩); refine η _ ?_; clear η κ) | (refine r_nil (hK _ ?_); clear hK K) | refine q_seq ?_
  refine r_opN fun κ η => ?_; simp only [go_sem, Nat.reduceLT, Nat.reduceEqDiff, Nat.reduceAdd, Nat.reduceMul, Nat.reduceLeDiff, Nat.le_refl, reduceIte, reduceCtorEq, G.t, iL, pL]; refine ⟨_, hck, ?_⟩; simp only [go_sem, Nat.reduceLT, Nat.reduceEqDiff, Nat.reduceAdd, Nat.reduceMul, Nat.reduceLeDiff, Nat.le_refl, reduceIte, reduceCtorEq, G.t, iL, pL]; refine η _ ?_; clear η κ
  repeat' first | refine c_seq ?_ | refine c_reg' rfl fun K hK => ?_ | (refine r_opN fun κ η => ?_; simp only [go_sem, Nat.reduceLT, Nat.reduceEqDiff, Nat.reduceAdd, Nat.reduceMul, Nat.reduceLeDiff, Nat.le_refl, reduceIte, reduceCtorEq]; refine η _ ?_; clear η κ) | (refine r_nil (hK _ ?_); clear hK K) | refine q_seq ?_
  refine c_cond _ rfl (fun hq => ?_) (fun hq => ?_)
  · simp only [Bool.not_eq_true', decide_eq_false_iff_not] at hq
    rw [if_pos hq] at hres
    repeat' first | refine c_seq ?_ | refine c_reg' rfl fun K hK => ?_ | (refine r_opN fun κ η => ?_; simp only [go_sem, Nat.reduceLT, Nat.reduceEqDiff, Nat.reduceAdd, Nat.reduceMul, Nat.reduceLeDiff, Nat.le_refl, reduceIte, reduceCtorEq, hres, g00_, G.t, iL, pL]; refine η _ ?_; clear η κ) | (refine r_nil (hK _ ?_); clear hK K) | refine q_seq ?_ | refine c_ret ?_ | refine q_seqR ?_ | (refine q_ret ?_; refine q_rc ?_; simp only [go_sem, Nat.reduceLT, Nat.reduceEqDiff, Nat.reduceAdd, Nat.reduceMul, Nat.reduceLeDiff, Nat.le_refl, reduceIte, reduceCtorEq, hres, g00_, G.t, iL, pL])
  simp only [Bool.not_eq_false', decide_eq_true_eq] at hq
  obtain ⟨⟨l1, l2, l3, l4⟩, hok⟩ := checkG_ok hq
  have hlen := hok.len
  have e1 : g.first = 1 + g.ins + g.next.length := rfl
  have e2 : g.top = g.ins + g.next.length + g.ands.length := rfl
  rw [if_neg (not_not_intro hq)] at hres
  have hfa := firstAnd_ct Hy g (by omega)
  rw [← e1] at hfa
  obtain ⟨keep, hkeep⟩ : ∃ keep : Nat → Bool, keep = fun _ : Nat => true := ⟨_, rfl⟩
  have hkt : ∀ i, keep i = true := fun i => by rw [hkeep]
  have hgo : normG g = closeG (bldG g keep) := by rw [hkeep]; rfl
  clear hkeep
  obtain ⟨n1, n2, n3⟩ := bldG_ok keep hok l1
  have hcl := closeUp_ct Hy (bldG g keep) n1 ⟨l1, l2, by omega, by
    show (((g.outs.map _).length : Nat) : Int) ≤ 4000
    rw [List.length_map]
    exact l4⟩
  rw [← hgo] at hcl
  repeat' first | refine c_seq ?_ | refine c_reg' rfl fun K hK => ?_ | (refine r_opN fun κ η => ?_; simp only [go_sem, Nat.reduceLT, Nat.reduceEqDiff, Nat.reduceAdd, Nat.reduceMul, Nat.reduceLeDiff, Nat.le_refl, reduceIte, reduceCtorEq]; (repeat refine ⟨by omega, ?_⟩); refine η _ ?_; clear η κ) | refine q_seq ?_ | refine c_skip ?_
  refine r_call fun κ η => ?_; simp only [go_sem, Nat.reduceLT, Nat.reduceEqDiff, Nat.reduceAdd, Nat.reduceMul, Nat.reduceLeDiff, Nat.le_refl, reduceIte, reduceCtorEq, G.cells, iL, pL]; refine ⟨_, newBuilder_cm Hy g _ mlaw84 ⟨l1, l2⟩ (by omega) hfa, ?_⟩; rintro _ o2 ⟨nb, k1, km, kk, rfl, hB, hfr⟩; simp only [go_sem, Nat.reduceLT, Nat.reduceEqDiff, Nat.reduceAdd, Nat.reduceMul, Nat.reduceLeDiff, Nat.le_refl, reduceIte, reduceCtorEq, G.cells, iL, pL]; refine η _ ?_; clear η κ
  have h1 : o2 1 = ⟨1, .cells 25 g.cells⟩ := hfr 1 (by decide)
  have h2 : o2 2 = ⟨1, .cells 25 [.t (.i .i64 0), .nilS, .nilS, .nilS, .nilS]⟩ := hfr 2 (by decide)
  have h1' := h1
  simp only [G.cells, iL, pL] at h1'
  clear hfr
  repeat' first | refine c_seq ?_ | refine c_block ?_ | refine c_reg' rfl fun K hK => ?_ | (refine r_opN fun κ η => ?_; simp only [go_sem, Nat.reduceLT, Nat.reduceEqDiff, Nat.reduceAdd, Nat.reduceMul, Nat.reduceLeDiff, Nat.le_refl, reduceIte, reduceCtorEq, h1']; (repeat refine ⟨by omega, ?_⟩); refine η _ ?_; clear η κ) | (refine r_nil (hK _ ?_); clear hK K) | refine q_seq ?_
  refine c_loop (fun m s' => ∃ i : Nat, m = g.ands.length - i ∧ i ≤ g.ands.length ∧ ∃ F oc k1 kk, s' = nf 59 F oc [(1, .ptr 1 1 0), (2, .ptr 2 1 0), (5, .ptr 900 nb 0), (17, .t (pL g.ands)), (18, .t (.i .i64 g.ands.length)), (19, .t (.i .i64 i))] [] ∧ ClI g nb k1 km kk (bldS g.first g.ands keep i) oc) g.ands.length ?_ ?_
  · exact ⟨0, by omega, by omega, _, _, _, _, nf_of rfl ⟨rfl, rfl, rfl, rfl, rfl, rfl, trivial⟩ trivial, hB, h1, h2⟩
  clear hB h1 h2 h1' k1 kk
  rintro m s' ⟨i, rfl, hi, F, oc, k1, kk, rfl, hB, h1, h2⟩
  have h1' := h1
  simp only [G.cells, iL, pL] at h1'
  simp only [pL]
  repeat' first | refine c_seq ?_ | refine c_reg' rfl fun K hK => ?_ | (refine r_opN fun κ η => ?_; simp only [go_sem, Nat.reduceLT, Nat.reduceEqDiff, Nat.reduceAdd, Nat.reduceMul, Nat.reduceLeDiff, Nat.le_refl, reduceIte, reduceCtorEq]; refine η _ ?_; clear η κ) | (refine r_nil (hK _ ?_); clear hK K) | refine q_seq ?_
  refine c_cond _ rfl (fun hq => ?_) (fun hq => ?_)
  · simp only [decide_eq_true_eq] at hq
    obtain ⟨x, hx⟩ : ∃ x, g.ands[i]? = some x := ⟨_, List.getElem?_eq_getElem (by omega)⟩
    obtain ⟨⟨x1, x2⟩, x3, x4⟩ := hok.aok l1 i x hx
    obtain ⟨b1, b2, b3, _⟩ := bldS_ok (keep := keep) (by omega) (hok.aok l1) i (by omega)
    have hsu : bldS g.first g.ands keep (i + 1) = ((andG g.first (bldS g.first g.ands keep i).1 (litB (bldS g.first g.ands keep i).2 x.1) (litB (bldS g.first g.ands keep i).2 x.2)).1,
      (bldS g.first g.ands keep i).2 ++ [(andG g.first (bldS g.first g.ands keep i).1 (litB (bldS g.first g.ands keep i).2 x.1) (litB (bldS g.first g.ands keep i).2 x.2)).2]) := by
      conv => lhs; unfold bldS
      rw [List.getD_eq_getElem?_getD, hx, Option.getD_some, if_pos (hkt i)]
    generalize bldS g.first g.ands keep i = s at *
    have c1 := litB_bd (x := x.1) ⟨x1, by omega⟩ b3
    have c2 := litB_bd (x := x.2) ⟨x3, by omega⟩ b3
    have b4 : ∀ y ∈ s.2, 0 ≤ y ∧ y ≤ 1000000 := fun y hy => by have := b3 y hy; omega
    repeat' first | refine c_seq ?_ | refine c_block ?_ | refine c_reg' rfl fun K hK => ?_ | refine c_draw' rfl (by kernel_rfl) fun K hK => ?_ | ((first | refine r_opN fun κ η => ?_ | refine d_opN (by kernel_rfl) fun κ η => ?_); simp only [go_sem, Nat.reduceLT, Nat.reduceEqDiff, Nat.reduceAdd, Nat.reduceMul, Nat.reduceLeDiff, Nat.le_refl, reduceIte, reduceCtorEq, hx]; (repeat refine ⟨by omega, ?_⟩); refine η _ ?_; clear η κ) | (refine r_nil (hK _ ?_); clear hK K) | refine q_seq ?_ | refine c_skip ?_
    refine d_call (R := [900, 903]) (W := []) (by kernel_rfl) fun κ η => ?_; simp only [go_sem, Nat.reduceLT, Nat.reduceEqDiff, Nat.reduceAdd, Nat.reduceMul, Nat.reduceLeDiff, Nat.le_refl, reduceIte, reduceCtorEq]; refine ⟨_, _, ?wr_, lit_cd Hy x.1 (by exact hB.b) (by exact hB.tl) ⟨x1, by omega⟩ (by omega) b4 (by simp), ?_⟩; (case wr_ => rfl); (try simp only [go_sem, Nat.reduceLT, Nat.reduceEqDiff, Nat.reduceAdd, Nat.reduceMul, Nat.reduceLeDiff, Nat.le_refl, reduceIte, reduceCtorEq]); refine η _ ?_; clear η κ
    repeat' (refine d_opN (by kernel_rfl) fun κ η => ?_; simp only [go_sem, Nat.reduceLT, Nat.reduceEqDiff, Nat.reduceAdd, Nat.reduceMul, Nat.reduceLeDiff, Nat.le_refl, reduceIte, reduceCtorEq]; (repeat refine ⟨by omega, ?_⟩); refine η _ ?_; clear η κ)
    refine d_call (R := [900, 903]) (W := []) (by kernel_rfl) fun κ η => ?_; simp only [go_sem, Nat.reduceLT, Nat.reduceEqDiff, Nat.reduceAdd, Nat.reduceMul, Nat.reduceLeDiff, Nat.le_refl, reduceIte, reduceCtorEq]; refine ⟨_, _, ?wr_, lit_cd Hy x.2 (by exact hB.b) (by exact hB.tl) ⟨x3, by omega⟩ (by omega) b4 (by simp), ?_⟩; (case wr_ => rfl); (try simp only [go_sem, Nat.reduceLT, Nat.reduceEqDiff, Nat.reduceAdd, Nat.reduceMul, Nat.reduceLeDiff, Nat.le_refl, reduceIte, reduceCtorEq]); refine η _ ?_; clear η κ
    repeat' (refine d_opN (by kernel_rfl) fun κ η => ?_; simp only [go_sem, Nat.reduceLT, Nat.reduceEqDiff, Nat.reduceAdd, Nat.reduceMul, Nat.reduceLeDiff, Nat.le_refl, reduceIte, reduceCtorEq]; refine η _ ?_; clear η κ)
    refine d_call (R := [903]) (W := [900, 901, 902, 1009, 1047]) (by kernel_rfl) fun κ η => ?_; simp only [go_sem, Nat.reduceLT, Nat.reduceEqDiff, Nat.reduceAdd, Nat.reduceMul, Nat.reduceLeDiff, Nat.le_refl, reduceIte, reduceCtorEq, upAnd]; refine ⟨_, _, ?wr_, band_cd Hy _ _ (by exact ⟨hB.b, hB.an, hB.mp, hB.tl, hB.fi⟩) ⟨⟨l1, l2⟩, by omega, by omega, by omega⟩ mlaw84 (by omega) (by omega) (by simp), ?_⟩; (case wr_ => rfl); (try simp only [go_sem, Nat.reduceLT, Nat.reduceEqDiff, Nat.reduceAdd, Nat.reduceMul, Nat.reduceLeDiff, Nat.le_refl, reduceIte, reduceCtorEq, upAnd]); refine η _ ?_; clear η κ
    repeat' (refine d_opN (by kernel_rfl) fun κ η => ?_; simp only [go_sem, Nat.reduceLT, Nat.reduceEqDiff, Nat.reduceAdd, Nat.reduceMul, Nat.reduceLeDiff, Nat.le_refl, reduceIte, reduceCtorEq]; refine η _ ?_; clear η κ)
    refine d_call (R := []) (W := [2010, 900, 903]) (by kernel_rfl) fun κ η => ?_; simp only [go_sem, Nat.reduceLT, Nat.reduceEqDiff, Nat.reduceAdd, Nat.reduceMul, Nat.reduceLeDiff, Nat.le_refl, reduceIte, reduceCtorEq]; refine ⟨_, _, ?wr_, come_cd Hy _ (by exact rfl) (by exact hB.tl) (by omega) (by simp), ?_⟩; (case wr_ => rfl); (try simp only [go_sem, Nat.reduceLT, Nat.reduceEqDiff, Nat.reduceAdd, Nat.reduceMul, Nat.reduceLeDiff, Nat.le_refl, reduceIte, reduceCtorEq]); refine η _ ?_; clear η κ
    repeat' first | refine c_reg' rfl fun K hK => ?_ | (refine r_opN fun κ η => ?_; simp only [go_sem, Nat.reduceLT, Nat.reduceEqDiff, Nat.reduceAdd, Nat.reduceMul, Nat.reduceLeDiff, Nat.le_refl, reduceIte, reduceCtorEq]; (repeat refine ⟨by omega, ?_⟩); refine η _ ?_; clear η κ) | (refine r_nil (hK _ ?_); clear hK K) | refine q_seq ?_ | (refine d_nil (hK _ ?_); clear hK K) | refine q_blk ?_ | refine q_lpN ?_
    refine ⟨g.ands.length - (i + 1), by omega, i + 1, rfl, by omega, _, _, k1 + ((andG g.first s.1 (litB s.2 x.1) (litB s.2 x.2)).1.length - s.1.length), kk + 1, nf_of rfl ⟨rfl, rfl, rfl, rfl, rfl, rfl, trivial⟩ trivial, ?_⟩
    rw [hsu]
    exact ⟨⟨rfl, rfl, rfl, rfl, hB.fi⟩, h1, h2⟩
  · simp only [decide_eq_false_iff_not] at hq
    obtain rfl : i = g.ands.length := by omega
    have ln := lits_of (keep := keep) hok l1 l3 hok.n
    have lo := lits_of (keep := keep) hok l1 l3 hok.o
    obtain ⟨b1, b2, b3, _⟩ := bldS_ok (keep := keep) (by omega) (hok.aok l1) g.ands.length (Nat.le_refl _)
    unfold bldG at hcl
    clear hgo n1 n2 n3
    generalize bldS g.first g.ands keep g.ands.length = s at *
    have b4 : ∀ y ∈ s.2, 0 ≤ y ∧ y ≤ 1000000 := fun y hy => by have := b3 y hy; omega
    have hb := hB.b
    have ha := hB.an
    have hb' := hb
    simp only [iL] at hb'
    repeat' first | refine c_seq ?_ | refine c_draw' rfl (by kernel_rfl) fun K hK => ?_ | (refine d_opN (by kernel_rfl) fun κ η => ?_; simp only [go_sem, Nat.reduceLT, Nat.reduceEqDiff, Nat.reduceAdd, Nat.reduceMul, Nat.reduceLeDiff, Nat.le_refl, reduceIte, reduceCtorEq, h1']; (repeat refine ⟨by omega, ?_⟩); refine η _ ?_; clear η κ) | refine q_seq ?_ | refine c_exit ?_ | refine q_seqE ?_ | refine q_blkHit ?_ | refine q_lpE ?_
    refine d_call (R := [900, 903]) (W := [3018, 3019]) (by kernel_rfl) fun κ η => ?_; simp only [go_sem, Nat.reduceLT, Nat.reduceEqDiff, Nat.reduceAdd, Nat.reduceMul, Nat.reduceLeDiff, Nat.le_refl, reduceIte, reduceCtorEq, iL]; refine ⟨_, _, ?wr_, map3_cd Hy g.next (by exact hb) (by exact hB.tl) (by omega) ln b4 (by simp), ?_⟩; (case wr_ => rfl); (try simp only [go_sem, Nat.reduceLT, Nat.reduceEqDiff, Nat.reduceAdd, Nat.reduceMul, Nat.reduceLeDiff, Nat.le_refl, reduceIte, reduceCtorEq, iL]); refine η _ ?_; clear η κ
    repeat' (refine d_opN (by kernel_rfl) fun κ η => ?_; simp only [go_sem, Nat.reduceLT, Nat.reduceEqDiff, Nat.reduceAdd, Nat.reduceMul, Nat.reduceLeDiff, Nat.le_refl, reduceIte, reduceCtorEq, h1']; (repeat refine ⟨by omega, ?_⟩); refine η _ ?_; clear η κ)
    refine d_call (R := [900, 903]) (W := [4018, 4019]) (by kernel_rfl) fun κ η => ?_; simp only [go_sem, Nat.reduceLT, Nat.reduceEqDiff, Nat.reduceAdd, Nat.reduceMul, Nat.reduceLeDiff, Nat.le_refl, reduceIte, reduceCtorEq, iL]; refine ⟨_, _, ?wr_, map4_cd Hy g.outs (by exact hb) (by exact hB.tl) (by omega) lo b4 (by simp), ?_⟩; (case wr_ => rfl); (try simp only [go_sem, Nat.reduceLT, Nat.reduceEqDiff, Nat.reduceAdd, Nat.reduceMul, Nat.reduceLeDiff, Nat.le_refl, reduceIte, reduceCtorEq, iL]); refine η _ ?_; clear η κ
    repeat' first | refine c_seq ?_ | refine c_reg' rfl fun K hK => ?_ | ((first | refine r_opN fun κ η => ?_ | refine d_opN (by kernel_rfl) fun κ η => ?_); simp only [go_sem, Nat.reduceLT, Nat.reduceEqDiff, Nat.reduceAdd, Nat.reduceMul, Nat.reduceLeDiff, Nat.le_refl, reduceIte, reduceCtorEq, hb', ha, iL]; (repeat refine ⟨by omega, ?_⟩); refine η _ ?_; clear η κ) | refine q_seq ?_ | (refine d_nil (hK _ ?_); clear hK K)
    simp only [G.t, iL, pL] at hcl
    refine r_callF fun κ η => ?_; simp only [go_sem, Nat.reduceLT, Nat.reduceEqDiff, Nat.reduceAdd, Nat.reduceMul, Nat.reduceLeDiff, Nat.le_refl, reduceIte, reduceCtorEq, ha]; refine ⟨_, (Cm.of_ct hcl), ?_⟩; rintro _ _ ⟨rfl, rfl⟩; simp only [go_sem, Nat.reduceLT, Nat.reduceEqDiff, Nat.reduceAdd, Nat.reduceMul, Nat.reduceLeDiff, Nat.le_refl, reduceIte, reduceCtorEq, ha]; refine η _ ?_; clear η κ
    repeat' first | (refine r_opN fun κ η => ?_; simp only [go_sem, Nat.reduceLT, Nat.reduceEqDiff, Nat.reduceAdd, Nat.reduceMul, Nat.reduceLeDiff, Nat.le_refl, reduceIte, reduceCtorEq, hres, h2, G.t, iL, pL]; refine η _ ?_; clear η κ) | (refine r_nil (hK _ ?_); clear hK K) | refine q_seq ?_ | refine c_ret ?_ | (refine q_ret ?_; refine q_rc ?_; simp only [go_sem, Nat.reduceLT, Nat.reduceEqDiff, Nat.reduceAdd, Nat.reduceMul, Nat.reduceLeDiff, Nat.le_refl, reduceIte, reduceCtorEq, hres, h2, G.t, iL, pL])
end Go.Proofs.Ytpbfkpdfodmcaaa
