import Derived.Test.YtfflfmpkjcomgaaH20
namespace Go.Proofs.Ytfflfmpkjcomgaa
open Go.RowKit
set_option maxRecDepth 100000
set_option linter.unusedSimpArgs false
variable (Hy : World → Prop)
attribute [local irreducible] runM runD cwp seqQ blkQ lpQ retQ asQ bdQ bdY retP
/-- the reference's table: does a literal hold? -/
def onF (on : List Int) (x : Int) : Bool := if x < 0 then decide (on.getD (0 - x).toNat 0 = -1) else decide (on.getD x.toNat 0 = 1)
def letF (on : List Int) (x : Int) : List Int := if x < 0 then on.set (0 - x).toNat (-1) else on.set x.toNat 1
/-- it lies in the table -/
def InT (on : List Int) (x : Int) : Prop := 0 - (on.length : Int) < x ∧ x < on.length
theorem rhold_ct (on : List Int) (x : Int) (hn : on.length ≤ 1000000) (hx : InT on x) : Ct Try.prog Hy 53 [iL on, .i .i64 x] [.b (onF on x)] := by
  obtain ⟨h1, h2⟩ := hx
  have hw : IntKind.wrap .i64 (0 - x) = 0 - x := inR_wrap (by simp only [inR]; omega)
  refine ct_of (cls := _root_.id) tt_ok follows_ Try.func53 rfl (by decide) (Nat.le_of_ble_eq_true rfl) ?_
  rw [show Try.f53.ntmps = 18 from rfl, s0_nf]
  simp only [List.zipIdx_cons, List.zipIdx_nil, List.map_cons, List.map_nil, Nat.reduceAdd, iL]
  repeat' first | refine c_seq ?_ | refine c_reg' rfl fun K E hK hE => ?_ | (refine r_opN fun κ η => ?_; simp only [go_sem, Nat.reduceLT, Nat.reduceEqDiff, Nat.reduceAdd, Nat.reduceMul, Nat.reduceLeDiff, Nat.le_refl, reduceIte, reduceCtorEq]; refine η _ ?_; clear η κ) | (refine r_nil (hK _ ?_); clear hE hK E K) | refine q_seq ?_
  refine c_cond _ rfl (fun hq => ?_) (fun hq => ?_)
  · simp only [decide_eq_true_eq] at hq
    obtain ⟨y, hy⟩ : ∃ y, on[(0 - x).toNat]? = some y := ⟨_, List.getElem?_eq_getElem (by omega)⟩
    repeat' first | refine c_seq ?_ | refine c_reg' rfl fun K E hK hE => ?_ | (refine r_opN fun κ η => ?_; simp only [go_sem, Nat.reduceLT, Nat.reduceEqDiff, Nat.reduceAdd, Nat.reduceMul, Nat.reduceLeDiff, Nat.le_refl, reduceIte, reduceCtorEq, hw, hy]; (repeat refine ⟨by omega, ?_⟩); refine η _ ?_; clear η κ) | (refine r_nil (hK _ ?_); clear hE hK E K) | refine q_seq ?_ | refine c_ret ?_ | refine q_seqR ?_ | (refine q_ret ?_; refine q_r1 ?_; simp only [go_sem, Nat.reduceLT, Nat.reduceEqDiff, Nat.reduceAdd, Nat.reduceMul, Nat.reduceLeDiff, Nat.le_refl, reduceIte, reduceCtorEq, hw, hy])
    rw [onF, if_pos hq, List.getD_eq_getElem?_getD, hy]
    rfl
  · simp only [decide_eq_false_iff_not] at hq
    obtain ⟨y, hy⟩ : ∃ y, on[x.toNat]? = some y := ⟨_, List.getElem?_eq_getElem (by omega)⟩
    repeat' first | refine c_seq ?_ | refine c_reg' rfl fun K E hK hE => ?_ | (refine r_opN fun κ η => ?_; simp only [go_sem, Nat.reduceLT, Nat.reduceEqDiff, Nat.reduceAdd, Nat.reduceMul, Nat.reduceLeDiff, Nat.le_refl, reduceIte, reduceCtorEq, hy]; (repeat refine ⟨by omega, ?_⟩); refine η _ ?_; clear η κ) | (refine r_nil (hK _ ?_); clear hE hK E K) | refine q_seq ?_ | refine c_skip ?_ | refine c_ret ?_ | (refine q_ret ?_; refine q_r1 ?_; simp only [go_sem, Nat.reduceLT, Nat.reduceEqDiff, Nat.reduceAdd, Nat.reduceMul, Nat.reduceLeDiff, Nat.le_refl, reduceIte, reduceCtorEq, hy])
    rw [onF, if_neg hq, List.getD_eq_getElem?_getD, hy]
    rfl
theorem rlet_ct (on : List Int) (x : Int) (hn : on.length ≤ 1000000) (hx : InT on x) : Ct Try.prog Hy 54 [iL on, .i .i64 x] [iL (letF on x)] := by
  obtain ⟨h1, h2⟩ := hx
  have hw : IntKind.wrap .i64 (0 - x) = 0 - x := inR_wrap (by simp only [inR]; omega)
  have hz1 : ∀ e ∈ on.map (fun x => [T.i .i64 x]), e.length = 1 := fun e he => by
    obtain ⟨x, _, rfl⟩ := List.mem_map.1 he
    rfl
  have hz := eq_true hz1
  have hs : ∀ (k : Nat) (z : Int), (on.map fun x => [T.i .i64 x]).set k [.i .i64 z] = (on.set k z).map fun x => [T.i .i64 x] := fun k z => by rw [List.map_set]
  refine ct_of (cls := _root_.id) tt_ok follows_ Try.func54 rfl (by decide) (Nat.le_of_ble_eq_true rfl) ?_
  rw [show Try.f54.ntmps = 19 from rfl, s0_nf]
  simp only [List.zipIdx_cons, List.zipIdx_nil, List.map_cons, List.map_nil, Nat.reduceAdd, iL]
  repeat' first | refine c_seq ?_ | refine c_reg' rfl fun K E hK hE => ?_ | (refine r_opN fun κ η => ?_; simp only [go_sem, Nat.reduceLT, Nat.reduceEqDiff, Nat.reduceAdd, Nat.reduceMul, Nat.reduceLeDiff, Nat.le_refl, reduceIte, reduceCtorEq, hz]; (repeat refine ⟨by omega, ?_⟩); refine η _ ?_; clear η κ) | (refine r_nil (hK _ ?_); clear hE hK E K) | refine q_seq ?_
  refine c_cond _ rfl (fun hq => ?_) (fun hq => ?_)
  · simp only [decide_eq_true_eq] at hq
    obtain ⟨y, hy⟩ : ∃ y, on[(0 - x).toNat]? = some y := ⟨_, List.getElem?_eq_getElem (by omega)⟩
    have e : letF on x = on.set (0 - x).toNat (-1) := if_pos hq
    repeat' first | refine c_seq ?_ | refine c_reg' rfl fun K E hK hE => ?_ | (refine r_opN fun κ η => ?_; simp only [go_sem, Nat.reduceLT, Nat.reduceEqDiff, Nat.reduceAdd, Nat.reduceMul, Nat.reduceLeDiff, Nat.le_refl, reduceIte, reduceCtorEq, hw, hy, hs]; (repeat refine ⟨by omega, ?_⟩); refine η _ ?_; clear η κ) | (refine r_nil (hK _ ?_); clear hE hK E K) | refine q_seq ?_ | refine c_ret ?_ | (refine q_ret ?_; refine q_r1 ?_; simp only [go_sem, Nat.reduceLT, Nat.reduceEqDiff, Nat.reduceAdd, Nat.reduceMul, Nat.reduceLeDiff, Nat.le_refl, reduceIte, reduceCtorEq, hw, hy, hs])
    rw [e]
  · simp only [decide_eq_false_iff_not] at hq
    obtain ⟨y, hy⟩ : ∃ y, on[x.toNat]? = some y := ⟨_, List.getElem?_eq_getElem (by omega)⟩
    have e : letF on x = on.set x.toNat 1 := if_neg hq
    repeat' first | refine c_seq ?_ | refine c_reg' rfl fun K E hK hE => ?_ | (refine r_opN fun κ η => ?_; simp only [go_sem, Nat.reduceLT, Nat.reduceEqDiff, Nat.reduceAdd, Nat.reduceMul, Nat.reduceLeDiff, Nat.le_refl, reduceIte, reduceCtorEq, hy, hs]; (repeat refine ⟨by omega, ?_⟩); refine η _ ?_; clear η κ) | (refine r_nil (hK _ ?_); clear hE hK E K) | refine q_seq ?_ | refine c_ret ?_ | (refine q_ret ?_; refine q_r1 ?_; simp only [go_sem, Nat.reduceLT, Nat.reduceEqDiff, Nat.reduceAdd, Nat.reduceMul, Nat.reduceLeDiff, Nat.le_refl, reduceIte, reduceCtorEq, hy, hs])
    rw [e]
end Go.Proofs.Ytfflfmpkjcomgaa
namespace Go.Proofs.Ytfflfmpkjcomgaa
open Go.RowKit
set_option maxRecDepth 100000
set_option linter.unusedSimpArgs false
variable (Hy : World → Prop)
attribute [local irreducible] runM runD cwp seqQ blkQ lpQ retQ asQ bdQ bdY retP
/-- the literals of a clause that are not turned, each once -/
def leftF (on c : List Int) : List Int := c.foldl (fun l y => if y ∈ l ∨ onF on (0 - y) = true then l else l ++ [y]) []
theorem left_take {on c : List Int} {k : Nat} {y : Int} (hy : c[k]? = some y) : leftF on (c.take (k + 1)) = if y ∈ leftF on (c.take k) ∨ onF on (0 - y) = true then leftF on (c.take k) else leftF on (c.take k) ++ [y] := by
  rw [List.take_add_one, hy]
  unfold leftF
  rw [List.foldl_append]
  rfl
theorem left_fold (on c : List Int) : ∀ l : List Int, l.length ≤ (c.foldl (fun l y => if y ∈ l ∨ onF on (0 - y) = true then l else l ++ [y]) l).length ∧ (c.foldl (fun l y => if y ∈ l ∨ onF on (0 - y) = true then l else l ++ [y]) l).length ≤ l.length + c.length := by
  induction c with
  | nil => exact fun l => ⟨Nat.le_refl _, Nat.le_refl _⟩
  | cons y c ih =>
    intro l
    rw [List.foldl_cons]
    split
    · have := ih l
      simp only [List.length_cons]
      omega
    · have := ih (l ++ [y])
      simp only [List.length_cons, List.length_append, List.length_nil] at this ⊢
      omega
theorem left_len (on c : List Int) : (leftF on c).length ≤ c.length := by
  have := (left_fold on c []).2
  simpa [leftF] using this
set_option maxHeartbeats 2000000 in
theorem rleft_ct (on c : List Int) (hn : on.length ≤ 1000000) (hc : c.length ≤ 1000000) (hx : ∀ x ∈ c, InT on x) : Ct Try.prog Hy 76 [iL on, iL c] [iL (leftF on c)] := by
  have hrh := fun x h => rhold_ct Hy on x hn h
  simp only [iL] at hrh
  refine ct_of (cls := _root_.id) tt_ok follows_ Try.func76 rfl (by decide) (Nat.le_of_ble_eq_true rfl) ?_
  rw [show Try.f76.ntmps = 53 from rfl, s0_nf]
  simp only [List.zipIdx_cons, List.zipIdx_nil, List.map_cons, List.map_nil, Nat.reduceAdd, iL]
  repeat' first | refine c_seq ?_ | refine c_block ?_ | refine c_reg' rfl fun K E hK hE => ?_ | (refine r_opN fun κ η => ?_; simp only [go_sem, Nat.reduceLT, Nat.reduceEqDiff, Nat.reduceAdd, Nat.reduceMul, Nat.reduceLeDiff, Nat.le_refl, reduceIte, reduceCtorEq]; refine η _ ?_; clear η κ) | (refine r_nil (hK _ ?_); clear hE hK E K) | refine q_seq ?_
  refine c_loop (fun m s' => ∃ k F oc x, m = c.length - k ∧ k ≤ c.length ∧ s' = nf 53 F oc [(0, .t (iL on)), (1, .t (iL c)), (5, x), (6, .t (.i .i64 (k : Nat)))] [] ∧ ((leftF on (c.take k) = [] ∧ x = .nilS) ∨ ∃ n, x = .row 51 n ∧ oc 51 = ⟨n, .row 3 1 ((leftF on (c.take k)).map fun x => [.i .i64 x])⟩)) c.length ?_ ?_
  · exact ⟨0, _, _, _, by omega, by omega, nf_of rfl ⟨rfl, rfl, rfl, rfl, trivial⟩ trivial, .inl ⟨rfl, rfl⟩⟩
  rintro m s' ⟨k, F, oc, x, rfl, hk, rfl, hx0⟩
  simp only [iL]
  repeat' first | refine c_seq ?_ | refine c_reg' rfl fun K E hK hE => ?_ | (refine r_opN fun κ η => ?_; simp only [go_sem, Nat.reduceLT, Nat.reduceEqDiff, Nat.reduceAdd, Nat.reduceMul, Nat.reduceLeDiff, Nat.le_refl, reduceIte, reduceCtorEq]; refine η _ ?_; clear η κ) | (refine r_nil (hK _ ?_); clear hE hK E K) | refine q_seq ?_
  refine c_cond _ rfl (fun hq => ?_) (fun hq => ?_)
  · simp only [decide_eq_true_eq] at hq
    obtain ⟨y, hy⟩ : ∃ y, c[k]? = some y := ⟨_, List.getElem?_eq_getElem (by omega)⟩
    have hyt := hx y (List.mem_of_getElem? hy)
    have hyn : InT on (0 - y) := by unfold InT at *; omega
    have hw : IntKind.wrap .i64 (0 - y) = 0 - y := inR_wrap (by unfold InT at hyt; simp only [inR]; omega)
    have htk := left_take (on := on) hy
    have hlen := left_len on (c.take k)
    rw [List.length_take] at hlen
    have hh := hrh (0 - y) hyn
    generalize leftF on (c.take k) = w at hx0 htk hlen
    repeat' first | refine c_seq ?_ | refine c_block ?_ | refine c_reg' rfl fun K E hK hE => ?_ | (refine r_opN fun κ η => ?_; simp only [go_sem, Nat.reduceLT, Nat.reduceEqDiff, Nat.reduceAdd, Nat.reduceMul, Nat.reduceLeDiff, Nat.le_refl, reduceIte, reduceCtorEq]; refine η _ ?_; clear η κ) | (refine r_nil (hK _ ?_); clear hE hK E K) | refine q_seq ?_ | refine c_skip ?_
    refine c_loop (fun m s' => ∃ j F, m = w.length - j ∧ j ≤ w.length ∧ s' = nf 53 F oc [(0, .t (iL on)), (1, .t (iL c)), (5, x), (6, .t (.i .i64 (k : Nat))), (7, .t (.b (decide (y ∈ w.take j)))), (8, .t (.i .i64 (j : Nat)))] []) w.length ?_ ?_
    · exact ⟨0, _, by omega, by omega, nf_of rfl ⟨rfl, rfl, rfl, rfl, by simp; rfl, rfl, trivial⟩ trivial⟩
    rintro m s' ⟨j, F, rfl, hj, rfl⟩
    simp only [iL]
    rcases hx0 with ⟨rfl, rfl⟩ | ⟨n, rfl, hn0⟩
    · obtain rfl : j = 0 := by simpa using hj
      simp only [List.take_nil, List.not_mem_nil, decide_false]
      repeat' first | refine c_seq ?_ | refine c_reg' rfl fun K E hK hE => ?_ | (refine r_opN fun κ η => ?_; simp only [go_sem, Nat.reduceLT, Nat.reduceEqDiff, Nat.reduceAdd, Nat.reduceMul, Nat.reduceLeDiff, Nat.le_refl, reduceIte, reduceCtorEq]; refine η _ ?_; clear η κ) | (refine r_nil (hK _ ?_); clear hE hK E K) | refine q_seq ?_
      refine c_cond _ rfl (fun hq => (by cases hq)) (fun hq => ?_)
      by_cases hh1 : onF on (0 - y) = true
      · rw [hh1] at hh
        rw [if_pos (.inr hh1)] at htk
        repeat' first | refine c_seq ?_ | refine c_reg' rfl fun K E hK hE => ?_ | ((first | refine r_opN fun κ η => ?_ | refine r_opG rfl fun κ η => ?_); simp only [go_sem, Nat.reduceLT, Nat.reduceEqDiff, Nat.reduceAdd, Nat.reduceMul, Nat.reduceLeDiff, Nat.le_refl, reduceIte, reduceCtorEq, hy, hw]; (repeat refine ⟨by omega, ?_⟩); refine η _ ?_; clear η κ) | refine q_seq ?_ | refine c_exit ?_ | refine q_seqE ?_ | refine q_blkHit ?_ | refine q_lpE ?_
        refine r_opG rfl fun κ η => ?_; simp only [go_sem, Nat.reduceLT, Nat.reduceEqDiff, Nat.reduceAdd, Nat.reduceMul, Nat.reduceLeDiff, Nat.le_refl, reduceIte, reduceCtorEq]; refine ⟨_, hh, ?_⟩; simp only [go_sem, Nat.reduceLT, Nat.reduceEqDiff, Nat.reduceAdd, Nat.reduceMul, Nat.reduceLeDiff, Nat.le_refl, reduceIte, reduceCtorEq]; refine η _ ?_; clear η κ
        repeat' first | ((first | refine r_opN fun κ η => ?_ | refine r_opG rfl fun κ η => ?_); simp only [go_sem, Nat.reduceLT, Nat.reduceEqDiff, Nat.reduceAdd, Nat.reduceMul, Nat.reduceLeDiff, Nat.le_refl, reduceIte, reduceCtorEq]; refine η _ ?_; clear η κ) | (refine r_nil (hK _ ?_); clear hE hK E K) | refine q_seq ?_
        refine c_cond _ rfl (fun hq => (by cases hq)) (fun hq => ?_)
        repeat' first | refine c_reg' rfl fun K E hK hE => ?_ | (refine r_opN fun κ η => ?_; simp only [go_sem, Nat.reduceLT, Nat.reduceEqDiff, Nat.reduceAdd, Nat.reduceMul, Nat.reduceLeDiff, Nat.le_refl, reduceIte, reduceCtorEq]; (repeat refine ⟨by omega, ?_⟩); refine η _ ?_; clear η κ) | (refine r_nil (hK _ ?_); clear hE hK E K) | refine q_seq ?_ | refine q_blk ?_ | refine c_skip ?_ | refine q_lpN ?_
        exact ⟨c.length - (k + 1), by omega, k + 1, _, _, _, rfl, by omega, nf_of rfl ⟨rfl, rfl, rfl, rfl, trivial⟩ trivial, .inl ⟨htk, rfl⟩⟩
      · rw [if_neg (not_or.2 ⟨by simp, hh1⟩)] at htk
        rw [show onF on (0 - y) = false by simpa using hh1] at hh
        repeat' first | refine c_seq ?_ | refine c_reg' rfl fun K E hK hE => ?_ | ((first | refine r_opN fun κ η => ?_ | refine r_opG rfl fun κ η => ?_); simp only [go_sem, Nat.reduceLT, Nat.reduceEqDiff, Nat.reduceAdd, Nat.reduceMul, Nat.reduceLeDiff, Nat.le_refl, reduceIte, reduceCtorEq, hy, hw]; (repeat refine ⟨by omega, ?_⟩); refine η _ ?_; clear η κ) | refine q_seq ?_ | refine c_exit ?_ | refine q_seqE ?_ | refine q_blkHit ?_ | refine q_lpE ?_
        refine r_opG rfl fun κ η => ?_; simp only [go_sem, Nat.reduceLT, Nat.reduceEqDiff, Nat.reduceAdd, Nat.reduceMul, Nat.reduceLeDiff, Nat.le_refl, reduceIte, reduceCtorEq]; refine ⟨_, hh, ?_⟩; simp only [go_sem, Nat.reduceLT, Nat.reduceEqDiff, Nat.reduceAdd, Nat.reduceMul, Nat.reduceLeDiff, Nat.le_refl, reduceIte, reduceCtorEq]; refine η _ ?_; clear η κ
        repeat' first | ((first | refine r_opN fun κ η => ?_ | refine r_opG rfl fun κ η => ?_); simp only [go_sem, Nat.reduceLT, Nat.reduceEqDiff, Nat.reduceAdd, Nat.reduceMul, Nat.reduceLeDiff, Nat.le_refl, reduceIte, reduceCtorEq]; refine η _ ?_; clear η κ) | (refine r_nil (hK _ ?_); clear hE hK E K) | refine q_seq ?_
        refine c_cond _ rfl (fun hq => ?_) (fun hq => (by cases hq))
        repeat' first | refine c_reg' rfl fun K E hK hE => ?_ | (refine r_opN fun κ η => ?_; simp only [go_sem, Nat.reduceLT, Nat.reduceEqDiff, Nat.reduceAdd, Nat.reduceMul, Nat.reduceLeDiff, Nat.le_refl, reduceIte, reduceCtorEq, hy]; (repeat refine ⟨by omega, ?_⟩); refine η _ ?_; clear η κ) | (refine r_nil (hK _ ?_); clear hE hK E K) | refine q_seq ?_ | refine q_blk ?_ | refine q_lpN ?_
        exact ⟨c.length - (k + 1), by omega, k + 1, _, _, _, rfl, by omega, nf_of rfl ⟨rfl, rfl, rfl, rfl, trivial⟩ trivial, .inr ⟨_, rfl, by rw [htk]; rfl⟩⟩
    · repeat' first | refine c_seq ?_ | refine c_reg' rfl fun K E hK hE => ?_ | (refine r_opN fun κ η => ?_; simp only [go_sem, Nat.reduceLT, Nat.reduceEqDiff, Nat.reduceAdd, Nat.reduceMul, Nat.reduceLeDiff, Nat.le_refl, reduceIte, reduceCtorEq, hn0]; refine η _ ?_; clear η κ) | (refine r_nil (hK _ ?_); clear hE hK E K) | refine q_seq ?_
      refine c_cond _ rfl (fun hq2 => ?_) (fun hq2 => ?_)
      · simp only [decide_eq_true_eq] at hq2
        obtain ⟨z, hz⟩ : ∃ z, w[j]? = some z := ⟨_, List.getElem?_eq_getElem (by omega)⟩
        have htj : w.take (j + 1) = w.take j ++ [z] := by rw [List.take_add_one, hz]; rfl
        by_cases hs : y ∈ w.take j
        · have hs1 : decide (y ∈ w.take j) = true := decide_eq_true hs
          repeat' first | refine c_seq ?_ | refine c_block ?_ | refine c_reg' rfl fun K E hK hE => ?_ | refine c_draw' rfl (by kernel_rfl) fun K E hK hE => ?_ | ((first | refine r_opN fun κ η => ?_ | refine d_opN (by kernel_rfl) fun κ η => ?_ | refine d_opG (by kernel_rfl) rfl fun κ η => ?_); simp only [go_sem, Nat.reduceLT, Nat.reduceEqDiff, Nat.reduceAdd, Nat.reduceMul, Nat.reduceLeDiff, Nat.le_refl, reduceIte, reduceCtorEq, hs1]; (repeat refine ⟨by omega, ?_⟩); refine η _ ?_; clear η κ) | (refine r_nil (hK _ ?_); clear hE hK E K) | refine q_seq ?_ | (refine d_nil (hK _ ?_); clear hE hK E K) | refine q_blk ?_ | refine c_skip ?_ | refine q_lpN ?_
          exact ⟨w.length - (j + 1), by omega, j + 1, _, rfl, by omega, nf_of rfl ⟨rfl, rfl, rfl, rfl, by rw [htj, decide_eq_true (List.mem_append_left _ hs)]; rfl, rfl, trivial⟩ trivial⟩
        · have hs1 : decide (y ∈ w.take j) = false := decide_eq_false hs
          have hs2 : decide (y ∈ w.take (j + 1)) = decide (z = y) := by
            rw [htj]
            refine decide_eq_decide.2 ?_
            rw [List.mem_append, List.mem_singleton]
            exact ⟨fun h => (h.resolve_left hs).symm, fun h => .inr h.symm⟩
          repeat' first | refine c_seq ?_ | refine c_block ?_ | refine c_reg' rfl fun K E hK hE => ?_ | refine c_draw' rfl (by kernel_rfl) fun K E hK hE => ?_ | ((first | refine r_opN fun κ η => ?_ | refine d_opN (by kernel_rfl) fun κ η => ?_ | refine d_opG (by kernel_rfl) rfl fun κ η => ?_); simp only [go_sem, Nat.reduceLT, Nat.reduceEqDiff, Nat.reduceAdd, Nat.reduceMul, Nat.reduceLeDiff, Nat.le_refl, reduceIte, reduceCtorEq, hs1, hn0, hz, hy]; (repeat refine ⟨by omega, ?_⟩); refine η _ ?_; clear η κ) | (refine r_nil (hK _ ?_); clear hE hK E K) | refine q_seq ?_ | (refine d_nil (hK _ ?_); clear hE hK E K) | refine q_blk ?_ | refine c_skip ?_ | refine q_lpN ?_
          exact ⟨w.length - (j + 1), by omega, j + 1, _, rfl, by omega, nf_of rfl ⟨rfl, rfl, rfl, rfl, by rw [hs2]; rfl, rfl, trivial⟩ trivial⟩
      · simp only [decide_eq_false_iff_not] at hq2
        rw [List.take_of_length_le (by omega)]
        by_cases hyw : y ∈ w
        · rw [if_pos (.inl hyw)] at htk
          rw [decide_eq_true hyw]
          repeat' first | refine c_seq ?_ | refine c_reg' rfl fun K E hK hE => ?_ | ((first | refine r_opN fun κ η => ?_ | refine r_opG rfl fun κ η => ?_); simp only [go_sem, Nat.reduceLT, Nat.reduceEqDiff, Nat.reduceAdd, Nat.reduceMul, Nat.reduceLeDiff, Nat.le_refl, reduceIte, reduceCtorEq]; refine η _ ?_; clear η κ) | (refine r_nil (hK _ ?_); clear hE hK E K) | refine q_seq ?_ | refine c_exit ?_ | refine q_seqE ?_ | refine q_blkHit ?_ | refine q_lpE ?_
          refine c_cond _ rfl (fun hq => (by cases hq)) (fun hq => ?_)
          repeat' first | refine c_reg' rfl fun K E hK hE => ?_ | (refine r_opN fun κ η => ?_; simp only [go_sem, Nat.reduceLT, Nat.reduceEqDiff, Nat.reduceAdd, Nat.reduceMul, Nat.reduceLeDiff, Nat.le_refl, reduceIte, reduceCtorEq]; (repeat refine ⟨by omega, ?_⟩); refine η _ ?_; clear η κ) | (refine r_nil (hK _ ?_); clear hE hK E K) | refine q_seq ?_ | refine q_blk ?_ | refine c_skip ?_ | refine q_lpN ?_
          exact ⟨c.length - (k + 1), by omega, k + 1, _, _, _, rfl, by omega, nf_of rfl ⟨rfl, rfl, rfl, rfl, trivial⟩ trivial, .inr ⟨_, rfl, by rw [htk]; exact hn0⟩⟩
        rw [decide_eq_false hyw]
        by_cases hh1 : onF on (0 - y) = true
        · rw [hh1] at hh
          rw [if_pos (.inr hh1)] at htk
          repeat' first | refine c_seq ?_ | refine c_reg' rfl fun K E hK hE => ?_ | ((first | refine r_opN fun κ η => ?_ | refine r_opG rfl fun κ η => ?_); simp only [go_sem, Nat.reduceLT, Nat.reduceEqDiff, Nat.reduceAdd, Nat.reduceMul, Nat.reduceLeDiff, Nat.le_refl, reduceIte, reduceCtorEq, hy, hw, hn0]; (repeat refine ⟨by omega, ?_⟩); refine η _ ?_; clear η κ) | refine q_seq ?_ | refine c_exit ?_ | refine q_seqE ?_ | refine q_blkHit ?_ | refine q_lpE ?_
          refine r_opG rfl fun κ η => ?_; simp only [go_sem, Nat.reduceLT, Nat.reduceEqDiff, Nat.reduceAdd, Nat.reduceMul, Nat.reduceLeDiff, Nat.le_refl, reduceIte, reduceCtorEq]; refine ⟨_, hh, ?_⟩; simp only [go_sem, Nat.reduceLT, Nat.reduceEqDiff, Nat.reduceAdd, Nat.reduceMul, Nat.reduceLeDiff, Nat.le_refl, reduceIte, reduceCtorEq]; refine η _ ?_; clear η κ
          repeat' first | ((first | refine r_opN fun κ η => ?_ | refine r_opG rfl fun κ η => ?_); simp only [go_sem, Nat.reduceLT, Nat.reduceEqDiff, Nat.reduceAdd, Nat.reduceMul, Nat.reduceLeDiff, Nat.le_refl, reduceIte, reduceCtorEq]; refine η _ ?_; clear η κ) | (refine r_nil (hK _ ?_); clear hE hK E K) | refine q_seq ?_
          refine c_cond _ rfl (fun hq => (by cases hq)) (fun hq => ?_)
          repeat' first | refine c_reg' rfl fun K E hK hE => ?_ | (refine r_opN fun κ η => ?_; simp only [go_sem, Nat.reduceLT, Nat.reduceEqDiff, Nat.reduceAdd, Nat.reduceMul, Nat.reduceLeDiff, Nat.le_refl, reduceIte, reduceCtorEq]; (repeat refine ⟨by omega, ?_⟩); refine η _ ?_; clear η κ) | (refine r_nil (hK _ ?_); clear hE hK E K) | refine q_seq ?_ | refine q_blk ?_ | refine c_skip ?_ | refine q_lpN ?_
          exact ⟨c.length - (k + 1), by omega, k + 1, _, _, _, rfl, by omega, nf_of rfl ⟨rfl, rfl, rfl, rfl, trivial⟩ trivial, .inr ⟨_, rfl, by rw [htk]; exact hn0⟩⟩
        · rw [if_neg (not_or.2 ⟨hyw, hh1⟩)] at htk
          rw [show onF on (0 - y) = false by simpa using hh1] at hh
          repeat' first | refine c_seq ?_ | refine c_reg' rfl fun K E hK hE => ?_ | ((first | refine r_opN fun κ η => ?_ | refine r_opG rfl fun κ η => ?_); simp only [go_sem, Nat.reduceLT, Nat.reduceEqDiff, Nat.reduceAdd, Nat.reduceMul, Nat.reduceLeDiff, Nat.le_refl, reduceIte, reduceCtorEq, hy, hw, hn0]; (repeat refine ⟨by omega, ?_⟩); refine η _ ?_; clear η κ) | refine q_seq ?_ | refine c_exit ?_ | refine q_seqE ?_ | refine q_blkHit ?_ | refine q_lpE ?_
          refine r_opG rfl fun κ η => ?_; simp only [go_sem, Nat.reduceLT, Nat.reduceEqDiff, Nat.reduceAdd, Nat.reduceMul, Nat.reduceLeDiff, Nat.le_refl, reduceIte, reduceCtorEq]; refine ⟨_, hh, ?_⟩; simp only [go_sem, Nat.reduceLT, Nat.reduceEqDiff, Nat.reduceAdd, Nat.reduceMul, Nat.reduceLeDiff, Nat.le_refl, reduceIte, reduceCtorEq]; refine η _ ?_; clear η κ
          repeat' first | ((first | refine r_opN fun κ η => ?_ | refine r_opG rfl fun κ η => ?_); simp only [go_sem, Nat.reduceLT, Nat.reduceEqDiff, Nat.reduceAdd, Nat.reduceMul, Nat.reduceLeDiff, Nat.le_refl, reduceIte, reduceCtorEq]; refine η _ ?_; clear η κ) | (refine r_nil (hK _ ?_); clear hE hK E K) | refine q_seq ?_
          refine c_cond _ rfl (fun hq => ?_) (fun hq => (by cases hq))
          repeat' first | refine c_reg' rfl fun K E hK hE => ?_ | (refine r_opN fun κ η => ?_; simp only [go_sem, Nat.reduceLT, Nat.reduceEqDiff, Nat.reduceAdd, Nat.reduceMul, Nat.reduceLeDiff, Nat.le_refl, reduceIte, reduceCtorEq, hy, hn0]; (repeat refine ⟨by omega, ?_⟩); refine η _ ?_; clear η κ) | (refine r_nil (hK _ ?_); clear hE hK E K) | refine q_seq ?_ | refine q_blk ?_ | refine q_lpN ?_
          exact ⟨c.length - (k + 1), by omega, k + 1, _, _, _, rfl, by omega, nf_of rfl ⟨rfl, rfl, rfl, rfl, trivial⟩ trivial, .inr ⟨_, rfl, by rw [htk]; rw [List.map_append]; rfl⟩⟩
  · simp only [decide_eq_false_iff_not] at hq
    rw [List.take_of_length_le (by omega)] at hx0
    rcases hx0 with ⟨h0, rfl⟩ | ⟨n, rfl, hn0⟩
    · repeat' first | refine c_seq ?_ | refine c_reg' rfl fun K E hK hE => ?_ | (refine r_opN fun κ η => ?_; simp only [go_sem, Nat.reduceLT, Nat.reduceEqDiff, Nat.reduceAdd, Nat.reduceMul, Nat.reduceLeDiff, Nat.le_refl, reduceIte, reduceCtorEq]; refine η _ ?_; clear η κ) | (refine r_nil (hK _ ?_); clear hE hK E K) | refine q_seq ?_ | refine c_exit ?_ | refine c_ret ?_ | refine q_seqE ?_ | refine q_blkHit ?_ | refine q_lpE ?_ | (refine q_ret ?_; refine q_r1 ?_; simp only [go_sem, Nat.reduceLT, Nat.reduceEqDiff, Nat.reduceAdd, Nat.reduceMul, Nat.reduceLeDiff, Nat.le_refl, reduceIte, reduceCtorEq])
      rw [h0]
      rfl
    · repeat' first | refine c_seq ?_ | refine c_reg' rfl fun K E hK hE => ?_ | (refine r_opN fun κ η => ?_; simp only [go_sem, Nat.reduceLT, Nat.reduceEqDiff, Nat.reduceAdd, Nat.reduceMul, Nat.reduceLeDiff, Nat.le_refl, reduceIte, reduceCtorEq, hn0]; refine η _ ?_; clear η κ) | (refine r_nil (hK _ ?_); clear hE hK E K) | refine q_seq ?_ | refine c_exit ?_ | refine c_ret ?_ | refine q_seqE ?_ | refine q_blkHit ?_ | refine q_lpE ?_ | (refine q_ret ?_; refine q_r1 ?_; simp only [go_sem, Nat.reduceLT, Nat.reduceEqDiff, Nat.reduceAdd, Nat.reduceMul, Nat.reduceLeDiff, Nat.le_refl, reduceIte, reduceCtorEq, hn0])
end Go.Proofs.Ytfflfmpkjcomgaa
namespace Go.Proofs.Ytfflfmpkjcomgaa
open Go.RowKit
set_option maxRecDepth 100000
set_option linter.unusedSimpArgs false
variable (Hy : World → Prop)
attribute [local irreducible] runM runD cwp seqQ blkQ lpQ retQ asQ bdQ bdY retP
theorem left_mem {on : List Int} {c : List Int} : ∀ x ∈ leftF on c, x ∈ c := by
  have key : ∀ (c l : List Int), ∀ x ∈ c.foldl (fun l y => if y ∈ l ∨ onF on (0 - y) = true then l else l ++ [y]) l, x ∈ l ∨ x ∈ c := by
    intro c
    induction c with
    | nil => exact fun l x hx => .inl hx
    | cons y c ih =>
      intro l x hx
      rw [List.foldl_cons] at hx
      split at hx
      · exact (ih l x hx).imp id (List.mem_cons_of_mem _)
      · rcases ih _ x hx with h | h
        · rcases List.mem_append.1 h with h | h
          · exact .inl h
          · exact .inr (List.mem_singleton.1 h ▸ List.mem_cons_self)
        · exact .inr (List.mem_cons_of_mem _ h)
  intro x hx
  exact (key c [] x hx).resolve_left List.not_mem_nil
/-- a table and whether there is a conflict, as the reference has them -/
def tabT (on : List Int) (bad : Bool) : T := .ag [iL on, .b bad]
def oneF (on : List Int) (c : List Int) : List Int := match leftF on c with
  | [x] => if onF on x = true then on else letF on x
  | _ => on
def oneB (on : List Int) (bad : Bool) (c : List Int) : Bool := bad || (leftF on c).isEmpty
set_option maxHeartbeats 2000000 in
theorem rone_ct20 (on c : List Int) (bad : Bool) (hn : on.length ≤ 1000000) (hc : c.length ≤ 1000000) (hx : ∀ x ∈ c, InT on x) : Ct Try.prog Hy 55 [tabT on bad, iL c] [tabT (oneF on c) (oneB on bad c)] := by
  have hlf := rleft_ct Hy on c hn hc hx
  have hmem := left_mem (on := on) (c := c)
  have e1 : oneF on c = match leftF on c with | [x] => if onF on x = true then on else letF on x | _ => on := rfl
  have e2 : oneB on bad c = (bad || (leftF on c).isEmpty) := rfl
  have hlen := left_len on c
  rw [e1, e2]
  clear e1 e2
  generalize leftF on c = w at hlf hmem hlen
  match w, hlf, hmem, hlen with
  | [], hlf, _, _ =>
    simp only [iL, List.map_nil] at hlf
    refine ct_of (cls := _root_.id) tt_ok follows_ Try.func55 rfl (by decide) (Nat.le_of_ble_eq_true rfl) ?_
    rw [show Try.f55.ntmps = 34 from rfl, s0_nf]
    simp only [List.zipIdx_cons, List.zipIdx_nil, List.map_cons, List.map_nil, Nat.reduceAdd, tabT, iL]
    repeat' first | refine c_seq ?_ | refine c_reg' rfl fun K E hK hE => ?_ | (refine r_opN fun κ η => ?_; simp only [go_sem, Nat.reduceLT, Nat.reduceEqDiff, Nat.reduceAdd, Nat.reduceMul, Nat.reduceLeDiff, Nat.le_refl, reduceIte, reduceCtorEq, Int.cast_ofNat_Int, Int.reduceEq, decide_false, decide_true, Nat.zero_add, Nat.reduceAdd, List.length_cons, List.length_nil]; (repeat refine ⟨by omega, ?_⟩); refine η _ ?_; clear η κ) | (refine r_nil (hK _ ?_); clear hE hK E K) | refine q_seq ?_
    refine r_opN fun κ η => ?_; simp only [go_sem, Nat.reduceLT, Nat.reduceEqDiff, Nat.reduceAdd, Nat.reduceMul, Nat.reduceLeDiff, Nat.le_refl, reduceIte, reduceCtorEq]; refine ⟨_, hlf, ?_⟩; simp only [go_sem, Nat.reduceLT, Nat.reduceEqDiff, Nat.reduceAdd, Nat.reduceMul, Nat.reduceLeDiff, Nat.le_refl, reduceIte, reduceCtorEq]; refine η _ ?_; clear η κ
    repeat' first | refine c_seq ?_ | refine c_reg' rfl fun K E hK hE => ?_ | (refine r_opN fun κ η => ?_; simp only [go_sem, Nat.reduceLT, Nat.reduceEqDiff, Nat.reduceAdd, Nat.reduceMul, Nat.reduceLeDiff, Nat.le_refl, reduceIte, reduceCtorEq, Int.cast_ofNat_Int, Int.reduceEq, decide_false, decide_true, Nat.zero_add, Nat.reduceAdd, List.length_cons, List.length_nil]; refine η _ ?_; clear η κ) | (refine r_nil (hK _ ?_); clear hE hK E K) | refine q_seq ?_
    refine c_cond _ rfl (fun hq => ?_) (fun hq => (by cases hq))
    repeat' first | refine c_seq ?_ | refine c_reg' rfl fun K E hK hE => ?_ | refine c_draw' rfl (by kernel_rfl) fun K E hK hE => ?_ | ((first | refine r_opN fun κ η => ?_ | refine d_opN (by kernel_rfl) fun κ η => ?_ | refine d_opG (by kernel_rfl) rfl fun κ η => ?_); simp only [go_sem, Nat.reduceLT, Nat.reduceEqDiff, Nat.reduceAdd, Nat.reduceMul, Nat.reduceLeDiff, Nat.le_refl, reduceIte, reduceCtorEq, Int.cast_ofNat_Int, Int.reduceEq, decide_false, decide_true, Nat.zero_add, Nat.reduceAdd, List.length_cons, List.length_nil]; (repeat refine ⟨by omega, ?_⟩); refine η _ ?_; clear η κ) | (refine r_nil (hK _ ?_); clear hE hK E K) | refine q_seq ?_ | (refine d_nil (hK _ ?_); clear hE hK E K)
    refine c_cond _ rfl (fun hq => (by cases hq)) (fun hq => ?_)
    repeat' first | refine c_seq ?_ | refine c_reg' rfl fun K E hK hE => ?_ | (refine r_opN fun κ η => ?_; simp only [go_sem, Nat.reduceLT, Nat.reduceEqDiff, Nat.reduceAdd, Nat.reduceMul, Nat.reduceLeDiff, Nat.le_refl, reduceIte, reduceCtorEq, Int.cast_ofNat_Int, Int.reduceEq, decide_false, decide_true, Nat.zero_add, Nat.reduceAdd, List.length_cons, List.length_nil]; refine η _ ?_; clear η κ) | (refine r_nil (hK _ ?_); clear hE hK E K) | refine q_seq ?_ | refine c_skip ?_ | refine c_ret ?_ | (refine q_ret ?_; refine q_rc ?_; simp only [go_sem, Nat.reduceLT, Nat.reduceEqDiff, Nat.reduceAdd, Nat.reduceMul, Nat.reduceLeDiff, Nat.le_refl, reduceIte, reduceCtorEq, Int.cast_ofNat_Int, Int.reduceEq, decide_false, decide_true, Nat.zero_add, Nat.reduceAdd, List.length_cons, List.length_nil])
    simp [tabT, iL]
  | [x], hlf, hmem, _ =>
    have hit := hx x (hmem x List.mem_cons_self)
    have hrh := rhold_ct Hy on x hn hit
    have hrl := rlet_ct Hy on x hn hit
    simp only [iL, List.map_cons, List.map_nil] at hlf hrh hrl
    refine ct_of (cls := _root_.id) tt_ok follows_ Try.func55 rfl (by decide) (Nat.le_of_ble_eq_true rfl) ?_
    rw [show Try.f55.ntmps = 34 from rfl, s0_nf]
    simp only [List.zipIdx_cons, List.zipIdx_nil, List.map_cons, List.map_nil, Nat.reduceAdd, tabT, iL]
    repeat' first | refine c_seq ?_ | refine c_reg' rfl fun K E hK hE => ?_ | (refine r_opN fun κ η => ?_; simp only [go_sem, Nat.reduceLT, Nat.reduceEqDiff, Nat.reduceAdd, Nat.reduceMul, Nat.reduceLeDiff, Nat.le_refl, reduceIte, reduceCtorEq, Int.cast_ofNat_Int, Int.reduceEq, decide_false, decide_true, Nat.zero_add, Nat.reduceAdd, List.length_cons, List.length_nil]; (repeat refine ⟨by omega, ?_⟩); refine η _ ?_; clear η κ) | (refine r_nil (hK _ ?_); clear hE hK E K) | refine q_seq ?_
    refine r_opN fun κ η => ?_; simp only [go_sem, Nat.reduceLT, Nat.reduceEqDiff, Nat.reduceAdd, Nat.reduceMul, Nat.reduceLeDiff, Nat.le_refl, reduceIte, reduceCtorEq]; refine ⟨_, hlf, ?_⟩; simp only [go_sem, Nat.reduceLT, Nat.reduceEqDiff, Nat.reduceAdd, Nat.reduceMul, Nat.reduceLeDiff, Nat.le_refl, reduceIte, reduceCtorEq]; refine η _ ?_; clear η κ
    repeat' first | refine c_seq ?_ | refine c_reg' rfl fun K E hK hE => ?_ | (refine r_opN fun κ η => ?_; simp only [go_sem, Nat.reduceLT, Nat.reduceEqDiff, Nat.reduceAdd, Nat.reduceMul, Nat.reduceLeDiff, Nat.le_refl, reduceIte, reduceCtorEq, Int.cast_ofNat_Int, Int.reduceEq, decide_false, decide_true, Nat.zero_add, Nat.reduceAdd, List.length_cons, List.length_nil]; refine η _ ?_; clear η κ) | (refine r_nil (hK _ ?_); clear hE hK E K) | refine q_seq ?_
    refine c_cond _ rfl (fun hq => (by cases hq)) (fun hq => ?_)
    by_cases ho : onF on x = true
    · rw [ho] at hrh
      repeat' first | refine c_seq ?_ | refine c_draw' rfl (by kernel_rfl) fun K E hK hE => ?_ | ((first | refine d_opN (by kernel_rfl) fun κ η => ?_ | refine d_opG (by kernel_rfl) rfl fun κ η => ?_); simp only [go_sem, Nat.reduceLT, Nat.reduceEqDiff, Nat.reduceAdd, Nat.reduceMul, Nat.reduceLeDiff, Nat.le_refl, reduceIte, reduceCtorEq, Int.cast_ofNat_Int, Int.reduceEq, decide_false, decide_true, Nat.zero_add, Nat.reduceAdd, List.length_cons, List.length_nil]; (repeat refine ⟨by omega, ?_⟩); refine η _ ?_; clear η κ) | refine q_seq ?_ | refine c_skip ?_
      refine d_opG (by kernel_rfl) rfl fun κ η => ?_; simp only [go_sem, Nat.reduceLT, Nat.reduceEqDiff, Nat.reduceAdd, Nat.reduceMul, Nat.reduceLeDiff, Nat.le_refl, reduceIte, reduceCtorEq]; refine ⟨_, hrh, ?_⟩; simp only [go_sem, Nat.reduceLT, Nat.reduceEqDiff, Nat.reduceAdd, Nat.reduceMul, Nat.reduceLeDiff, Nat.le_refl, reduceIte, reduceCtorEq]; refine η _ ?_; clear η κ
      repeat' first | ((first | refine d_opN (by kernel_rfl) fun κ η => ?_ | refine d_opG (by kernel_rfl) rfl fun κ η => ?_); simp only [go_sem, Nat.reduceLT, Nat.reduceEqDiff, Nat.reduceAdd, Nat.reduceMul, Nat.reduceLeDiff, Nat.le_refl, reduceIte, reduceCtorEq, Int.cast_ofNat_Int, Int.reduceEq, decide_false, decide_true, Nat.zero_add, Nat.reduceAdd, List.length_cons, List.length_nil]; refine η _ ?_; clear η κ) | refine q_seq ?_ | (refine d_nil (hK _ ?_); clear hE hK E K)
      refine c_cond _ rfl (fun hq => (by cases hq)) (fun hq => ?_)
      repeat' first | refine c_seq ?_ | refine c_reg' rfl fun K E hK hE => ?_ | (refine r_opN fun κ η => ?_; simp only [go_sem, Nat.reduceLT, Nat.reduceEqDiff, Nat.reduceAdd, Nat.reduceMul, Nat.reduceLeDiff, Nat.le_refl, reduceIte, reduceCtorEq, Int.cast_ofNat_Int, Int.reduceEq, decide_false, decide_true, Nat.zero_add, Nat.reduceAdd, List.length_cons, List.length_nil]; refine η _ ?_; clear η κ) | (refine r_nil (hK _ ?_); clear hE hK E K) | refine q_seq ?_ | refine c_skip ?_ | refine c_ret ?_ | (refine q_ret ?_; refine q_rc ?_; simp only [go_sem, Nat.reduceLT, Nat.reduceEqDiff, Nat.reduceAdd, Nat.reduceMul, Nat.reduceLeDiff, Nat.le_refl, reduceIte, reduceCtorEq, Int.cast_ofNat_Int, Int.reduceEq, decide_false, decide_true, Nat.zero_add, Nat.reduceAdd, List.length_cons, List.length_nil])
      simp [tabT, iL, ho]
    · rw [show onF on x = false by simpa using ho] at hrh
      repeat' first | refine c_seq ?_ | refine c_draw' rfl (by kernel_rfl) fun K E hK hE => ?_ | ((first | refine d_opN (by kernel_rfl) fun κ η => ?_ | refine d_opG (by kernel_rfl) rfl fun κ η => ?_); simp only [go_sem, Nat.reduceLT, Nat.reduceEqDiff, Nat.reduceAdd, Nat.reduceMul, Nat.reduceLeDiff, Nat.le_refl, reduceIte, reduceCtorEq, Int.cast_ofNat_Int, Int.reduceEq, decide_false, decide_true, Nat.zero_add, Nat.reduceAdd, List.length_cons, List.length_nil]; (repeat refine ⟨by omega, ?_⟩); refine η _ ?_; clear η κ) | refine q_seq ?_ | refine c_skip ?_
      refine d_opG (by kernel_rfl) rfl fun κ η => ?_; simp only [go_sem, Nat.reduceLT, Nat.reduceEqDiff, Nat.reduceAdd, Nat.reduceMul, Nat.reduceLeDiff, Nat.le_refl, reduceIte, reduceCtorEq]; refine ⟨_, hrh, ?_⟩; simp only [go_sem, Nat.reduceLT, Nat.reduceEqDiff, Nat.reduceAdd, Nat.reduceMul, Nat.reduceLeDiff, Nat.le_refl, reduceIte, reduceCtorEq]; refine η _ ?_; clear η κ
      repeat' first | ((first | refine d_opN (by kernel_rfl) fun κ η => ?_ | refine d_opG (by kernel_rfl) rfl fun κ η => ?_); simp only [go_sem, Nat.reduceLT, Nat.reduceEqDiff, Nat.reduceAdd, Nat.reduceMul, Nat.reduceLeDiff, Nat.le_refl, reduceIte, reduceCtorEq, Int.cast_ofNat_Int, Int.reduceEq, decide_false, decide_true, Nat.zero_add, Nat.reduceAdd, List.length_cons, List.length_nil]; refine η _ ?_; clear η κ) | refine q_seq ?_ | (refine d_nil (hK _ ?_); clear hE hK E K)
      refine c_cond _ rfl (fun hq => ?_) (fun hq => (by cases hq))
      repeat' first | refine c_draw' rfl (by kernel_rfl) fun K E hK hE => ?_ | (refine d_opN (by kernel_rfl) fun κ η => ?_; simp only [go_sem, Nat.reduceLT, Nat.reduceEqDiff, Nat.reduceAdd, Nat.reduceMul, Nat.reduceLeDiff, Nat.le_refl, reduceIte, reduceCtorEq, Int.cast_ofNat_Int, Int.reduceEq, decide_false, decide_true, Nat.zero_add, Nat.reduceAdd, List.length_cons, List.length_nil]; (repeat refine ⟨by omega, ?_⟩); refine η _ ?_; clear η κ)
      refine d_opN (by kernel_rfl) fun κ η => ?_; simp only [go_sem, Nat.reduceLT, Nat.reduceEqDiff, Nat.reduceAdd, Nat.reduceMul, Nat.reduceLeDiff, Nat.le_refl, reduceIte, reduceCtorEq]; refine ⟨_, hrl, ?_⟩; simp only [go_sem, Nat.reduceLT, Nat.reduceEqDiff, Nat.reduceAdd, Nat.reduceMul, Nat.reduceLeDiff, Nat.le_refl, reduceIte, reduceCtorEq]; refine η _ ?_; clear η κ
      repeat' first | refine c_seq ?_ | refine c_reg' rfl fun K E hK hE => ?_ | ((first | refine r_opN fun κ η => ?_ | refine d_opN (by kernel_rfl) fun κ η => ?_); simp only [go_sem, Nat.reduceLT, Nat.reduceEqDiff, Nat.reduceAdd, Nat.reduceMul, Nat.reduceLeDiff, Nat.le_refl, reduceIte, reduceCtorEq, Int.cast_ofNat_Int, Int.reduceEq, decide_false, decide_true, Nat.zero_add, Nat.reduceAdd, List.length_cons, List.length_nil]; (repeat refine ⟨by omega, ?_⟩); refine η _ ?_; clear η κ) | (refine r_nil (hK _ ?_); clear hE hK E K) | refine q_seq ?_ | (refine d_nil (hK _ ?_); clear hE hK E K) | refine c_ret ?_ | (refine q_ret ?_; refine q_rc ?_; simp only [go_sem, Nat.reduceLT, Nat.reduceEqDiff, Nat.reduceAdd, Nat.reduceMul, Nat.reduceLeDiff, Nat.le_refl, reduceIte, reduceCtorEq, Int.cast_ofNat_Int, Int.reduceEq, decide_false, decide_true, Nat.zero_add, Nat.reduceAdd, List.length_cons, List.length_nil])
      simp [tabT, iL, ho]
  | x :: y :: r, hlf, _, hlen =>
    simp only [iL, List.map_cons, List.map_nil] at hlf
    simp only [List.length_cons] at hlen
    have z0 : (((r.length + 1 + 1 : Nat) : Int) = 0) = False := eq_false (by omega)
    have z1 : (((r.length + 1 + 1 : Nat) : Int) = 1) = False := eq_false (by omega)
    refine ct_of (cls := _root_.id) tt_ok follows_ Try.func55 rfl (by decide) (Nat.le_of_ble_eq_true rfl) ?_
    rw [show Try.f55.ntmps = 34 from rfl, s0_nf]
    simp only [List.zipIdx_cons, List.zipIdx_nil, List.map_cons, List.map_nil, Nat.reduceAdd, tabT, iL]
    repeat' first | refine c_seq ?_ | refine c_reg' rfl fun K E hK hE => ?_ | (refine r_opN fun κ η => ?_; simp only [go_sem, Nat.reduceLT, Nat.reduceEqDiff, Nat.reduceAdd, Nat.reduceMul, Nat.reduceLeDiff, Nat.le_refl, reduceIte, reduceCtorEq, List.length_cons]; (repeat refine ⟨by omega, ?_⟩); refine η _ ?_; clear η κ) | (refine r_nil (hK _ ?_); clear hE hK E K) | refine q_seq ?_
    refine r_opN fun κ η => ?_; simp only [go_sem, Nat.reduceLT, Nat.reduceEqDiff, Nat.reduceAdd, Nat.reduceMul, Nat.reduceLeDiff, Nat.le_refl, reduceIte, reduceCtorEq]; refine ⟨_, hlf, ?_⟩; simp only [go_sem, Nat.reduceLT, Nat.reduceEqDiff, Nat.reduceAdd, Nat.reduceMul, Nat.reduceLeDiff, Nat.le_refl, reduceIte, reduceCtorEq]; refine η _ ?_; clear η κ
    repeat' first | refine c_seq ?_ | refine c_reg' rfl fun K E hK hE => ?_ | (refine r_opN fun κ η => ?_; simp only [go_sem, Nat.reduceLT, Nat.reduceEqDiff, Nat.reduceAdd, Nat.reduceMul, Nat.reduceLeDiff, Nat.le_refl, reduceIte, reduceCtorEq, List.length_cons, z0, z1, decide_false]; refine η _ ?_; clear η κ) | (refine r_nil (hK _ ?_); clear hE hK E K) | refine q_seq ?_
    refine c_cond _ rfl (fun hq => (by cases hq)) (fun hq => ?_)
    repeat' first | refine c_seq ?_ | refine c_draw' rfl (by kernel_rfl) fun K E hK hE => ?_ | ((first | refine d_opN (by kernel_rfl) fun κ η => ?_ | refine d_opG (by kernel_rfl) rfl fun κ η => ?_); simp only [go_sem, Nat.reduceLT, Nat.reduceEqDiff, Nat.reduceAdd, Nat.reduceMul, Nat.reduceLeDiff, Nat.le_refl, reduceIte, reduceCtorEq, List.length_cons, z0, z1, decide_false]; refine η _ ?_; clear η κ) | refine q_seq ?_ | (refine d_nil (hK _ ?_); clear hE hK E K) | refine c_skip ?_
    refine c_cond _ rfl (fun hq => (by cases hq)) (fun hq => ?_)
    repeat' first | refine c_seq ?_ | refine c_reg' rfl fun K E hK hE => ?_ | (refine r_opN fun κ η => ?_; simp only [go_sem, Nat.reduceLT, Nat.reduceEqDiff, Nat.reduceAdd, Nat.reduceMul, Nat.reduceLeDiff, Nat.le_refl, reduceIte, reduceCtorEq]; refine η _ ?_; clear η κ) | (refine r_nil (hK _ ?_); clear hE hK E K) | refine q_seq ?_ | refine c_skip ?_ | refine c_ret ?_ | (refine q_ret ?_; refine q_rc ?_; simp only [go_sem, Nat.reduceLT, Nat.reduceEqDiff, Nat.reduceAdd, Nat.reduceMul, Nat.reduceLeDiff, Nat.le_refl, reduceIte, reduceCtorEq])
    simp [tabT, iL]
end Go.Proofs.Ytfflfmpkjcomgaa
namespace Go.Proofs.Ytfflfmpkjcomgaa
open Go.RowKit
set_option maxRecDepth 100000
set_option linter.unusedSimpArgs false
variable (Hy : World → Prop)
attribute [local irreducible] runM runD cwp seqQ blkQ lpQ retQ asQ bdQ bdY retP
/-- a cell that holds an own row is settled -/
theorem q_cellR {n : Nat} {F : Nat → A} {G0 : Nat → O} {sl : List (Nat × A)} {ob : List (Nat × O)} {N : S → Prop} {Q : Exit → S → Prop} {id r g k z : Nat} {ty ty' : TypeId} {l : List (List T)} {x : A} (h1 : (nf n F G0 sl ob).o id = ⟨g, .cells ty [.row r k, x]⟩) (h2 : (nf n F G0 sl ob).o r = ⟨k, .row ty' z l⟩) (hne : id ≠ r)
    (h : ∀ o', o' id = ⟨g, .cells ty [.t (.sl l), x]⟩ → (∀ i, i ≠ id → i ≠ r → o' i = (nf n F G0 sl ob).o i) → N (nf n F o' sl [])) : seqQ N Q .normal (nf n F G0 sl ob) := by
  revert h1 h2 h
  generalize ho : (nf n F G0 sl ob).o = o
  intro h1 h2 h
  have s1 : Stl o (ob1 o r (.ro l)) := Stl.ro (by rw [h2])
  have e1 : ob1 o r (.ro l) id = o id := ob1_other hne
  have e2 : ob1 o r (.ro l) r = ⟨k, .ro l⟩ := by rw [ob1_self, h2]
  have s2 := Stl.cells (o := ob1 o r (.ro l)) (id := id) (ty := ty) (l := [.row r k, x]) (l' := [.t (.sl l), x]) (by rw [e1, h1]) rfl (fun j x' hx => by
    match j with
    | 0 => cases hx; exact ⟨_, rfl, .inr ⟨r, k, l, rfl, by rw [e2], by rw [e2], rfl⟩⟩
    | 1 => cases hx; exact ⟨_, rfl, .inl rfl⟩
    | j + 2 => simp at hx)
  have st := s1.trans s2
  have f1 : ob1 (ob1 o r (.ro l)) id (.cells ty [.t (.sl l), x]) id = ⟨g, .cells ty [.t (.sl l), x]⟩ := by rw [ob1_self, e1, h1]
  have f2 : ∀ i, i ≠ id → i ≠ r → ob1 (ob1 o r (.ro l)) id (.cells ty [.t (.sl l), x]) i = o i := fun i hi hr => by rw [ob1_other hi, ob1_other hr]
  generalize ob1 (ob1 o r (.ro l)) id (.cells ty [.t (.sl l), x]) = o' at st f1 f2
  exact q_seqS (ho.symm ▸ st) (h o' f1 f2)
def gvF (s : List Int × Bool) (x : Int) : List Int × Bool := (letF s.1 x, s.2 || onF s.1 (0 - x))
def onePF (s : List Int × Bool) (c : List Int) : List Int × Bool := (oneF s.1 c, oneB s.1 s.2 c)
def sweepF : List (List Int) → List Int × Bool → List Int × Bool
  | [], s => s
  | c :: l, s => if s.2 = true then s else sweepF l (onePF s c)
def roundsF (cs : List (List Int)) : Nat → List Int × Bool → List Int × Bool
  | 0, s => s
  | n + 1, s => if s.2 = true then s else roundsF cs n (sweepF cs s)
def reachF (cs : List (List Int)) (v : Int) (g : List Int) : List Int × Bool := roundsF cs (v + 1).toNat (g.foldl gvF (List.replicate (v + 1).toNat 0, false))
theorem let_len (on : List Int) (x : Int) : (letF on x).length = on.length := by
  unfold letF
  split <;> exact List.length_set
theorem one_len (on : List Int) (c : List Int) : (oneF on c).length = on.length := by
  unfold oneF
  split
  · split
    · rfl
    · exact let_len _ _
  · rfl
theorem inT_of {on : List Int} {v x : Int} (h : (on.length : Int) = v + 1) (hx : LitV v x) : InT on x := by
  unfold LitV at hx
  unfold InT
  omega
theorem rlits_ct (l : List Int) (v : Int) (hv : 0 ≤ v ∧ v ≤ 20000) (hl : l.length ≤ 1000000) : Ct Try.prog Hy 31 [iL l, .i .i64 v] [.b (l.all fun x => !badL v x)] := by
  refine ct_of (cls := _root_.id) tt_ok follows_ Try.func31 rfl (by decide) (Nat.le_of_ble_eq_true rfl) ?_
  rw [show Try.f31.ntmps = 19 from rfl, s0_nf]
  simp only [List.zipIdx_cons, List.zipIdx_nil, List.map_cons, List.map_nil, Nat.reduceAdd, iL]
  repeat' first | refine c_seq ?_ | refine c_block ?_ | refine c_reg' rfl fun K E hK hE => ?_ | (refine r_opN fun κ η => ?_; simp only [go_sem, Nat.reduceLT, Nat.reduceEqDiff, Nat.reduceAdd, Nat.reduceMul, Nat.reduceLeDiff, Nat.le_refl, reduceIte, reduceCtorEq]; refine η _ ?_; clear η κ) | (refine r_nil (hK _ ?_); clear hE hK E K) | refine q_seq ?_
  refine c_loop (fun m s' => ∃ k : Nat, m = l.length - k ∧ k ≤ l.length ∧ (∀ (j : Nat) x, j < k → l[j]? = some x → (!badL v x) = true) ∧ ∃ F G0, s' = nf 19 F G0 [(0, .t (iL l)), (1, .t (.i .i64 v)), (5, .t (.i .i64 k))] []) (l.length) ?_ ?_
  · exact ⟨0, by omega, by omega, fun j x hj => absurd hj (Nat.not_lt_zero j), _, _, nf_of rfl ⟨rfl, rfl, rfl, trivial⟩ trivial⟩
  rintro m s' ⟨k, rfl, hk, hno, F, G0, rfl⟩
  simp only [iL]
  repeat' first | refine c_seq ?_ | refine c_reg' rfl fun K E hK hE => ?_ | (refine r_opN fun κ η => ?_; simp only [go_sem, Nat.reduceLT, Nat.reduceEqDiff, Nat.reduceAdd, Nat.reduceMul, Nat.reduceLeDiff, Nat.le_refl, reduceIte, reduceCtorEq]; refine η _ ?_; clear η κ) | (refine r_nil (hK _ ?_); clear hE hK E K) | refine q_seq ?_
  refine c_cond _ rfl (fun hq => ?_) (fun hq => ?_)
  · simp only [decide_eq_true_eq] at hq
    obtain ⟨x, hx⟩ : ∃ x, l[k]? = some x := ⟨_, List.getElem?_eq_getElem (by omega)⟩
    have hr := rliteral19_ct Hy x v hv
    repeat' first | refine c_seq ?_ | refine c_block ?_ | refine c_reg' rfl fun K E hK hE => ?_ | (refine r_opN fun κ η => ?_; simp only [go_sem, Nat.reduceLT, Nat.reduceEqDiff, Nat.reduceAdd, Nat.reduceMul, Nat.reduceLeDiff, Nat.le_refl, reduceIte, reduceCtorEq, hx]; (repeat refine ⟨by omega, ?_⟩); refine η _ ?_; clear η κ) | refine q_seq ?_ | refine c_skip ?_
    refine r_opN fun κ η => ?_; simp only [go_sem, Nat.reduceLT, Nat.reduceEqDiff, Nat.reduceAdd, Nat.reduceMul, Nat.reduceLeDiff, Nat.le_refl, reduceIte, reduceCtorEq]; refine ⟨_, hr, ?_⟩; simp only [go_sem, Nat.reduceLT, Nat.reduceEqDiff, Nat.reduceAdd, Nat.reduceMul, Nat.reduceLeDiff, Nat.le_refl, reduceIte, reduceCtorEq]; refine η _ ?_; clear η κ
    repeat' first | (refine r_opN fun κ η => ?_; simp only [go_sem, Nat.reduceLT, Nat.reduceEqDiff, Nat.reduceAdd, Nat.reduceMul, Nat.reduceLeDiff, Nat.le_refl, reduceIte, reduceCtorEq]; refine η _ ?_; clear η κ) | (refine r_nil (hK _ ?_); clear hE hK E K) | refine q_seq ?_
    refine c_cond _ rfl (fun hq2 => ?_) (fun hq2 => ?_)
    · repeat' first | refine c_seq ?_ | refine c_reg' rfl fun K E hK hE => ?_ | (refine r_opN fun κ η => ?_; simp only [go_sem, Nat.reduceLT, Nat.reduceEqDiff, Nat.reduceAdd, Nat.reduceMul, Nat.reduceLeDiff, Nat.le_refl, reduceIte, reduceCtorEq]; refine η _ ?_; clear η κ) | (refine r_nil (hK _ ?_); clear hE hK E K) | refine q_seq ?_ | refine c_ret ?_ | refine q_seqR ?_ | refine q_blkR ?_ | refine q_lpR ?_ | (refine q_ret ?_; refine q_r1 ?_; simp only [go_sem, Nat.reduceLT, Nat.reduceEqDiff, Nat.reduceAdd, Nat.reduceMul, Nat.reduceLeDiff, Nat.le_refl, reduceIte, reduceCtorEq])
      rw [show (l.all fun x => !badL v x) = false from by
        rw [List.all_eq_false]
        exact ⟨x, List.mem_of_getElem? hx, by simpa using hq2⟩]
    · repeat' first | refine c_reg' rfl fun K E hK hE => ?_ | (refine r_opN fun κ η => ?_; simp only [go_sem, Nat.reduceLT, Nat.reduceEqDiff, Nat.reduceAdd, Nat.reduceMul, Nat.reduceLeDiff, Nat.le_refl, reduceIte, reduceCtorEq]; (repeat refine ⟨by omega, ?_⟩); refine η _ ?_; clear η κ) | (refine r_nil (hK _ ?_); clear hE hK E K) | refine q_seq ?_ | refine q_blk ?_ | refine c_skip ?_ | refine q_lpN ?_
      refine ⟨l.length - (k + 1), by omega, k + 1, rfl, by omega, fun j z hj hz => ?_, _, _, nf_of rfl ⟨rfl, rfl, rfl, trivial⟩ trivial⟩
      rcases Nat.lt_or_eq_of_le (Nat.lt_succ_iff.1 hj) with h | rfl
      · exact hno j z h hz
      · rw [hx] at hz
        cases hz
        simpa using hq2
  · simp only [decide_eq_false_iff_not] at hq
    repeat' first | refine c_seq ?_ | refine c_reg' rfl fun K E hK hE => ?_ | (refine r_opN fun κ η => ?_; simp only [go_sem, Nat.reduceLT, Nat.reduceEqDiff, Nat.reduceAdd, Nat.reduceMul, Nat.reduceLeDiff, Nat.le_refl, reduceIte, reduceCtorEq]; refine η _ ?_; clear η κ) | (refine r_nil (hK _ ?_); clear hE hK E K) | refine q_seq ?_ | refine c_exit ?_ | refine c_ret ?_ | refine q_seqE ?_ | refine q_blkHit ?_ | refine q_lpE ?_ | (refine q_ret ?_; refine q_r1 ?_; simp only [go_sem, Nat.reduceLT, Nat.reduceEqDiff, Nat.reduceAdd, Nat.reduceMul, Nat.reduceLeDiff, Nat.le_refl, reduceIte, reduceCtorEq])
    rw [show (l.all fun x => !badL v x) = true from by
      rw [List.all_eq_true]
      intro x hx
      obtain ⟨j, hj⟩ := List.getElem?_of_mem hx
      exact hno j x (by have := (List.getElem?_eq_some_iff.1 hj).1; omega) hj]
end Go.Proofs.Ytfflfmpkjcomgaa
namespace Go.Proofs.Ytfflfmpkjcomgaa
open Go.RowKit
set_option maxRecDepth 100000
set_option linter.unusedSimpArgs false
variable (Hy : World → Prop)
attribute [local irreducible] runM runD cwp seqQ blkQ lpQ retQ asQ bdQ bdY retP
set_option maxHeartbeats 2000000 in
theorem reach_ct (cs : List (List Int)) (v : Int) (g : List Int) (hv : 0 ≤ v ∧ v ≤ 20000) (hcs : ∀ c ∈ cs, c.length ≤ 1000000 ∧ ∀ x ∈ c, LitV v x) (hn : cs.length ≤ 1000000) (hg : ∀ x ∈ g, LitV v x) (hgn : g.length ≤ 1000000) :
    Ct Try.prog Hy 32 [cL cs, .i .i64 v, iL g] [tabT (reachF cs v g).1 (reachF cs v g).2] := by
  obtain ⟨s1, hs1⟩ : ∃ s1, s1 = g.foldl gvF (List.replicate (v + 1).toNat 0, false) := ⟨_, rfl⟩
  have hre : reachF cs v g = roundsF cs (v + 1).toNat s1 := by rw [hs1]; rfl
  refine ct_of (cls := _root_.id) tt_ok follows_ Try.func32 rfl (by decide) (Nat.le_of_ble_eq_true rfl) ?_
  rw [show Try.f32.ntmps = 66 from rfl, s0_nf]
  simp only [List.zipIdx_cons, List.zipIdx_nil, List.map_cons, List.map_nil, Nat.reduceAdd, cL, iL]
  repeat' first | refine c_seq ?_ | refine c_reg' rfl fun K E hK hE => ?_ | (refine r_opN fun κ η => ?_; simp only [go_sem, Nat.reduceLT, Nat.reduceEqDiff, Nat.reduceAdd, Nat.reduceMul, Nat.reduceLeDiff, Nat.le_refl, reduceIte, reduceCtorEq]; refine η _ ?_; clear η κ) | (refine r_nil (hK _ ?_); clear hE hK E K)
  refine q_seq ?_
  repeat' first | refine c_seq ?_ | refine c_reg' rfl fun K E hK hE => ?_ | (refine r_opN fun κ η => ?_; simp only [go_sem, Nat.reduceLT, Nat.reduceEqDiff, Nat.reduceAdd, Nat.reduceMul, Nat.reduceLeDiff, Nat.le_refl, reduceIte, reduceCtorEq]; (repeat refine ⟨by omega, ?_⟩); refine η _ ?_; clear η κ) | (refine r_nil (hK _ ?_); clear hE hK E K)
  refine q_cellR (id := 7) (r := 13) rfl rfl (by decide) fun o4 t2 t3 => ?_
  have hrep : (List.replicate (v + 1).toNat [T.i .i64 0]) = (List.replicate (v + 1).toNat (0 : Int)).map fun x => [T.i .i64 x] := by rw [List.map_replicate]
  rw [hrep] at t2
  have h6 := t3 6 (by decide) (by decide)
  clear t3 hrep
  repeat' first | refine c_seq ?_ | refine c_block ?_ | refine c_reg' rfl fun K E hK hE => ?_ | (refine r_opN fun κ η => ?_; simp only [go_sem, Nat.reduceLT, Nat.reduceEqDiff, Nat.reduceAdd, Nat.reduceMul, Nat.reduceLeDiff, Nat.le_refl, reduceIte, reduceCtorEq]; refine η _ ?_; clear η κ) | (refine r_nil (hK _ ?_); clear hE hK E K) | refine q_seq ?_
  refine c_loop (fun m s' => ∃ k F oc on bad x6, m = g.length - k ∧ k ≤ g.length ∧ s' = nf 66 F oc [(0, .t (cL cs)), (1, .t (.i .i64 v)), (2, .t (iL g)), (6, .ptr 6 1 0), (7, .ptr 7 1 0), (8, .t (.i .i64 (k : Nat)))] [] ∧ oc 7 = ⟨1, .cells 60 [.t (iL on), .t (.b bad)]⟩ ∧ oc 6 = ⟨1, .cells 60 [x6, .t (.b false)]⟩ ∧ (g.take k).foldl gvF (List.replicate (v + 1).toNat 0, false) = (on, bad) ∧ (on.length : Int) = v + 1) g.length ?_ ?_
  · refine ⟨0, _, _, _, _, _, by omega, by omega, nf_of rfl ⟨rfl, rfl, rfl, rfl, rfl, rfl, trivial⟩ trivial, t2, h6, rfl, by rw [List.length_replicate]; omega⟩
  clear t2 h6
  rintro m s' ⟨k, F, oc, on, bad, x6, rfl, hk, rfl, h7, h6, hfo, hlen⟩
  simp only [cL, iL] at h7 ⊢
  repeat' first | refine c_seq ?_ | refine c_reg' rfl fun K E hK hE => ?_ | (refine r_opN fun κ η => ?_; simp only [go_sem, Nat.reduceLT, Nat.reduceEqDiff, Nat.reduceAdd, Nat.reduceMul, Nat.reduceLeDiff, Nat.le_refl, reduceIte, reduceCtorEq]; refine η _ ?_; clear η κ) | (refine r_nil (hK _ ?_); clear hE hK E K) | refine q_seq ?_
  refine c_cond _ rfl (fun hq => ?_) (fun hq => ?_)
  · simp only [decide_eq_true_eq] at hq
    obtain ⟨x, hx⟩ : ∃ x, g[k]? = some x := ⟨_, List.getElem?_eq_getElem (by omega)⟩
    have hlx := hg x (List.mem_of_getElem? hx)
    have hw : IntKind.wrap .i64 (0 - x) = 0 - x := inR_wrap (by unfold LitV at hlx; simp only [inR]; omega)
    have htk : g.take (k + 1) = g.take k ++ [x] := by rw [List.take_add_one, hx]; rfl
    have hrh := rhold_ct Hy on (0 - x) (by omega) (inT_of hlen hlx.neg)
    have hrl := rlet_ct Hy on x (by omega) (inT_of hlen hlx)
    simp only [iL] at hrh hrl
    have hstep : (g.take (k + 1)).foldl gvF (List.replicate (v + 1).toNat 0, false) = (letF on x, bad || onF on (0 - x)) := by rw [htk, List.foldl_append, hfo]; rfl
    repeat' first | refine c_seq ?_ | refine c_block ?_ | refine c_draw' rfl (by kernel_rfl) fun K E hK hE => ?_ | (refine d_opN (by kernel_rfl) fun κ η => ?_; simp only [go_sem, Nat.reduceLT, Nat.reduceEqDiff, Nat.reduceAdd, Nat.reduceMul, Nat.reduceLeDiff, Nat.le_refl, reduceIte, reduceCtorEq, h7, hx, hw]; (repeat refine ⟨by omega, ?_⟩); refine η _ ?_; clear η κ) | refine q_seq ?_ | refine c_skip ?_
    refine d_opN (by kernel_rfl) fun κ η => ?_; simp only [go_sem, Nat.reduceLT, Nat.reduceEqDiff, Nat.reduceAdd, Nat.reduceMul, Nat.reduceLeDiff, Nat.le_refl, reduceIte, reduceCtorEq]; refine ⟨_, hrh, ?_⟩; simp only [go_sem, Nat.reduceLT, Nat.reduceEqDiff, Nat.reduceAdd, Nat.reduceMul, Nat.reduceLeDiff, Nat.le_refl, reduceIte, reduceCtorEq]; refine η _ ?_; clear η κ
    repeat' first | refine q_seq ?_ | (refine d_nil (hK _ ?_); clear hE hK E K)
    refine c_cond _ rfl (fun hq2 => ?_) (fun hq2 => ?_)
    · rw [hq2, Bool.or_true] at hstep
      repeat' first | refine c_reg' rfl fun K E hK hE => ?_ | refine c_draw' rfl (by kernel_rfl) fun K E hK hE => ?_ | ((first | refine r_opN fun κ η => ?_ | refine d_opN (by kernel_rfl) fun κ η => ?_); simp only [go_sem, Nat.reduceLT, Nat.reduceEqDiff, Nat.reduceAdd, Nat.reduceMul, Nat.reduceLeDiff, Nat.le_refl, reduceIte, reduceCtorEq, h7, hx]; (repeat refine ⟨by omega, ?_⟩); refine η _ ?_; clear η κ) | (refine r_nil (hK _ ?_); clear hE hK E K) | refine q_seq ?_
      refine d_opN (by kernel_rfl) fun κ η => ?_; simp only [go_sem, Nat.reduceLT, Nat.reduceEqDiff, Nat.reduceAdd, Nat.reduceMul, Nat.reduceLeDiff, Nat.le_refl, reduceIte, reduceCtorEq]; refine ⟨_, hrl, ?_⟩; simp only [go_sem, Nat.reduceLT, Nat.reduceEqDiff, Nat.reduceAdd, Nat.reduceMul, Nat.reduceLeDiff, Nat.le_refl, reduceIte, reduceCtorEq]; refine η _ ?_; clear η κ
      repeat' first | refine c_reg' rfl fun K E hK hE => ?_ | ((first | refine r_opN fun κ η => ?_ | refine d_opN (by kernel_rfl) fun κ η => ?_); simp only [go_sem, Nat.reduceLT, Nat.reduceEqDiff, Nat.reduceAdd, Nat.reduceMul, Nat.reduceLeDiff, Nat.le_refl, reduceIte, reduceCtorEq, h7]; (repeat refine ⟨by omega, ?_⟩); refine η _ ?_; clear η κ) | (refine r_nil (hK _ ?_); clear hE hK E K) | refine q_seq ?_ | (refine d_nil (hK _ ?_); clear hE hK E K) | refine q_blk ?_ | refine q_lpN ?_
      exact ⟨g.length - (k + 1), by omega, k + 1, _, _, _, _, _, rfl, by omega, nf_of rfl ⟨rfl, rfl, rfl, rfl, rfl, rfl, trivial⟩ trivial, rfl, h6, hstep, by rw [let_len]; exact hlen⟩
    · rw [hq2, Bool.or_false] at hstep
      repeat' first | refine c_draw' rfl (by kernel_rfl) fun K E hK hE => ?_ | (refine d_opN (by kernel_rfl) fun κ η => ?_; simp only [go_sem, Nat.reduceLT, Nat.reduceEqDiff, Nat.reduceAdd, Nat.reduceMul, Nat.reduceLeDiff, Nat.le_refl, reduceIte, reduceCtorEq, h7, hx]; (repeat refine ⟨by omega, ?_⟩); refine η _ ?_; clear η κ) | refine q_seq ?_ | refine c_skip ?_
      refine d_opN (by kernel_rfl) fun κ η => ?_; simp only [go_sem, Nat.reduceLT, Nat.reduceEqDiff, Nat.reduceAdd, Nat.reduceMul, Nat.reduceLeDiff, Nat.le_refl, reduceIte, reduceCtorEq]; refine ⟨_, hrl, ?_⟩; simp only [go_sem, Nat.reduceLT, Nat.reduceEqDiff, Nat.reduceAdd, Nat.reduceMul, Nat.reduceLeDiff, Nat.le_refl, reduceIte, reduceCtorEq]; refine η _ ?_; clear η κ
      repeat' first | refine c_reg' rfl fun K E hK hE => ?_ | ((first | refine r_opN fun κ η => ?_ | refine d_opN (by kernel_rfl) fun κ η => ?_); simp only [go_sem, Nat.reduceLT, Nat.reduceEqDiff, Nat.reduceAdd, Nat.reduceMul, Nat.reduceLeDiff, Nat.le_refl, reduceIte, reduceCtorEq, h7]; (repeat refine ⟨by omega, ?_⟩); refine η _ ?_; clear η κ) | (refine r_nil (hK _ ?_); clear hE hK E K) | refine q_seq ?_ | (refine d_nil (hK _ ?_); clear hE hK E K) | refine q_blk ?_ | refine q_lpN ?_
      exact ⟨g.length - (k + 1), by omega, k + 1, _, _, _, _, _, rfl, by omega, nf_of rfl ⟨rfl, rfl, rfl, rfl, rfl, rfl, trivial⟩ trivial, rfl, h6, hstep, by rw [let_len]; exact hlen⟩
  simp only [decide_eq_false_iff_not] at hq
  rw [List.take_of_length_le (by omega), ← hs1] at hfo
  rw [hfo] at hre
  generalize reachF cs v g = R at hre ⊢
  clear hs1 hfo
  repeat' first | refine c_seq ?_ | refine c_block ?_ | refine c_reg' rfl fun K E hK hE => ?_ | (refine r_opN fun κ η => ?_; simp only [go_sem, Nat.reduceLT, Nat.reduceEqDiff, Nat.reduceAdd, Nat.reduceMul, Nat.reduceLeDiff, Nat.le_refl, reduceIte, reduceCtorEq]; refine η _ ?_; clear η κ) | (refine r_nil (hK _ ?_); clear hE hK E K) | refine q_seq ?_ | refine c_exit ?_ | refine q_seqE ?_ | refine q_blkHit ?_ | refine q_lpE ?_
  refine c_loop (fun m s' => ∃ r F oc on bad, m = (v + 1).toNat - r ∧ r ≤ (v + 1).toNat ∧ s' = nf 66 F oc [(0, .t (cL cs)), (1, .t (.i .i64 v)), (6, .ptr 6 1 0), (7, .ptr 7 1 0), (9, .t (.i .i64 (r : Nat)))] [] ∧ oc 7 = ⟨1, .cells 60 [.t (iL on), .t (.b bad)]⟩ ∧ oc 6 = ⟨1, .cells 60 [x6, .t (.b false)]⟩ ∧ R = roundsF cs ((v + 1).toNat - r) (on, bad) ∧ (on.length : Int) = v + 1) (v + 1).toNat ?_ ?_
  · exact ⟨0, _, _, _, _, by omega, by omega, nf_of rfl ⟨rfl, rfl, rfl, rfl, rfl, trivial⟩ trivial, h7, h6, hre, hlen⟩
  clear h7 h6 hre hlen
  rintro m s' ⟨r, F, oc, on, bad, rfl, hr, rfl, h7, h6, hre, hlen⟩
  simp only [cL, iL] at h7 ⊢
  by_cases c1 : (r : Int) ≤ v
  case neg =>
    have hr0 : (v + 1).toNat - r = 0 := by omega
    rw [hr0] at hre
    repeat' first | refine c_seq ?_ | refine c_reg' rfl fun K E hK hE => ?_ | ((first | refine r_opN fun κ η => ?_ | refine r_opG rfl fun κ η => ?_); simp only [go_sem, Nat.reduceLT, Nat.reduceEqDiff, Nat.reduceAdd, Nat.reduceMul, Nat.reduceLeDiff, Nat.le_refl, reduceIte, reduceCtorEq, h7, c1]; refine η _ ?_; clear η κ) | (refine r_nil (hK _ ?_); clear hE hK E K) | refine q_seq ?_
    refine c_cond _ rfl (fun hq => (by cases hq)) (fun hq => ?_)
    repeat' first | refine c_seq ?_ | refine c_reg' rfl fun K E hK hE => ?_ | (refine r_opN fun κ η => ?_; simp only [go_sem, Nat.reduceLT, Nat.reduceEqDiff, Nat.reduceAdd, Nat.reduceMul, Nat.reduceLeDiff, Nat.le_refl, reduceIte, reduceCtorEq, h7, h6]; refine η _ ?_; clear η κ) | (refine r_nil (hK _ ?_); clear hE hK E K) | refine q_seq ?_ | refine c_exit ?_ | refine c_ret ?_ | refine q_seqE ?_ | refine q_blkHit ?_ | refine q_lpE ?_ | (refine q_ret ?_; refine q_rc ?_; simp only [go_sem, Nat.reduceLT, Nat.reduceEqDiff, Nat.reduceAdd, Nat.reduceMul, Nat.reduceLeDiff, Nat.le_refl, reduceIte, reduceCtorEq, h7, h6])
    rw [hre]
    rfl
  obtain ⟨n0, hn0⟩ : ∃ n0, (v + 1).toNat - r = n0 + 1 := ⟨(v + 1).toNat - r - 1, by omega⟩
  rw [hn0] at hre
  cases bad with
  | true =>
    repeat' first | refine c_seq ?_ | refine c_reg' rfl fun K E hK hE => ?_ | ((first | refine r_opN fun κ η => ?_ | refine r_opG rfl fun κ η => ?_); simp only [go_sem, Nat.reduceLT, Nat.reduceEqDiff, Nat.reduceAdd, Nat.reduceMul, Nat.reduceLeDiff, Nat.le_refl, reduceIte, reduceCtorEq, h7, c1]; (repeat refine ⟨by omega, ?_⟩); refine η _ ?_; clear η κ) | (refine r_nil (hK _ ?_); clear hE hK E K) | refine q_seq ?_
    refine c_cond _ rfl (fun hq => (by cases hq)) (fun hq => ?_)
    repeat' first | refine c_seq ?_ | refine c_reg' rfl fun K E hK hE => ?_ | (refine r_opN fun κ η => ?_; simp only [go_sem, Nat.reduceLT, Nat.reduceEqDiff, Nat.reduceAdd, Nat.reduceMul, Nat.reduceLeDiff, Nat.le_refl, reduceIte, reduceCtorEq, h7, h6]; refine η _ ?_; clear η κ) | (refine r_nil (hK _ ?_); clear hE hK E K) | refine q_seq ?_ | refine c_exit ?_ | refine c_ret ?_ | refine q_seqE ?_ | refine q_blkHit ?_ | refine q_lpE ?_ | (refine q_ret ?_; refine q_rc ?_; simp only [go_sem, Nat.reduceLT, Nat.reduceEqDiff, Nat.reduceAdd, Nat.reduceMul, Nat.reduceLeDiff, Nat.le_refl, reduceIte, reduceCtorEq, h7, h6])
    rw [hre]
    rfl
  | false =>
    repeat' first | refine c_seq ?_ | refine c_reg' rfl fun K E hK hE => ?_ | ((first | refine r_opN fun κ η => ?_ | refine r_opG rfl fun κ η => ?_); simp only [go_sem, Nat.reduceLT, Nat.reduceEqDiff, Nat.reduceAdd, Nat.reduceMul, Nat.reduceLeDiff, Nat.le_refl, reduceIte, reduceCtorEq, h7, c1]; (repeat refine ⟨by omega, ?_⟩); refine η _ ?_; clear η κ) | (refine r_nil (hK _ ?_); clear hE hK E K) | refine q_seq ?_
    refine c_cond _ rfl (fun hq => ?_) (fun hq => (by cases hq))
    repeat' first | refine c_seq ?_ | refine c_block ?_ | refine c_reg' rfl fun K E hK hE => ?_ | (refine r_opN fun κ η => ?_; simp only [go_sem, Nat.reduceLT, Nat.reduceEqDiff, Nat.reduceAdd, Nat.reduceMul, Nat.reduceLeDiff, Nat.le_refl, reduceIte, reduceCtorEq]; refine η _ ?_; clear η κ) | (refine r_nil (hK _ ?_); clear hE hK E K) | refine q_seq ?_ | refine c_skip ?_
    refine c_loop (fun m s' => ∃ n F oc on' bad, m = cs.length - n ∧ n ≤ cs.length ∧ s' = nf 66 F oc [(0, .t (cL cs)), (1, .t (.i .i64 v)), (6, .ptr 6 1 0), (7, .ptr 7 1 0), (9, .t (.i .i64 (r : Nat))), (10, .t (.i .i64 (n : Nat)))] [] ∧ oc 7 = ⟨1, .cells 60 [.t (iL on'), .t (.b bad)]⟩ ∧ oc 6 = ⟨1, .cells 60 [x6, .t (.b false)]⟩ ∧ sweepF cs (on, false) = sweepF (cs.drop n) (on', bad) ∧ (on'.length : Int) = v + 1) cs.length ?_ ?_
    · exact ⟨0, _, _, _, _, by omega, by omega, nf_of rfl ⟨rfl, rfl, rfl, rfl, rfl, rfl, trivial⟩ trivial, h7, h6, rfl, hlen⟩
    clear h7 h6 hlen
    rintro m s' ⟨n, F, oc, on', bad, rfl, hnn, rfl, h7, h6, hsw, hlen⟩
    simp only [cL, iL] at h7 ⊢
    have hexit : sweepF cs (on, false) = (on', bad) → R = roundsF cs ((v + 1).toNat - (r + 1)) (on', bad) := fun e => by
      rw [hre, show (v + 1).toNat - (r + 1) = n0 by omega, ← e]
      rfl
    by_cases c2 : (n : Int) < cs.length
    case neg =>
      rw [List.drop_of_length_le (by omega)] at hsw
      repeat' first | refine c_seq ?_ | refine c_reg' rfl fun K E hK hE => ?_ | ((first | refine r_opN fun κ η => ?_ | refine r_opG rfl fun κ η => ?_); simp only [go_sem, Nat.reduceLT, Nat.reduceEqDiff, Nat.reduceAdd, Nat.reduceMul, Nat.reduceLeDiff, Nat.le_refl, reduceIte, reduceCtorEq, h7, c2]; refine η _ ?_; clear η κ) | (refine r_nil (hK _ ?_); clear hE hK E K) | refine q_seq ?_
      refine c_cond _ rfl (fun hq => (by cases hq)) (fun hq => ?_)
      repeat' first | refine c_reg' rfl fun K E hK hE => ?_ | (refine r_opN fun κ η => ?_; simp only [go_sem, Nat.reduceLT, Nat.reduceEqDiff, Nat.reduceAdd, Nat.reduceMul, Nat.reduceLeDiff, Nat.le_refl, reduceIte, reduceCtorEq]; (repeat refine ⟨by omega, ?_⟩); refine η _ ?_; clear η κ) | (refine r_nil (hK _ ?_); clear hE hK E K) | refine q_seq ?_ | refine q_blk ?_ | refine c_exit ?_ | refine q_seqE ?_ | refine q_blkHit ?_ | refine q_lpE ?_ | refine q_lpN ?_
      exact ⟨(v + 1).toNat - (r + 1), by omega, r + 1, _, _, _, _, rfl, by omega, nf_of rfl ⟨rfl, rfl, rfl, rfl, rfl, trivial⟩ trivial, h7, h6, hexit hsw, hlen⟩
    obtain ⟨c, hc⟩ : ∃ c, cs[n]? = some c := ⟨_, List.getElem?_eq_getElem (by omega)⟩
    have hdr : cs.drop n = c :: cs.drop (n + 1) := by
      obtain ⟨h1, h2⟩ := List.getElem?_eq_some_iff.1 hc
      rw [List.drop_eq_getElem_cons h1, h2]
    rw [hdr] at hsw
    cases bad with
    | true =>
      repeat' first | refine c_seq ?_ | refine c_reg' rfl fun K E hK hE => ?_ | ((first | refine r_opN fun κ η => ?_ | refine r_opG rfl fun κ η => ?_); simp only [go_sem, Nat.reduceLT, Nat.reduceEqDiff, Nat.reduceAdd, Nat.reduceMul, Nat.reduceLeDiff, Nat.le_refl, reduceIte, reduceCtorEq, h7, c2]; (repeat refine ⟨by omega, ?_⟩); refine η _ ?_; clear η κ) | (refine r_nil (hK _ ?_); clear hE hK E K) | refine q_seq ?_
      refine c_cond _ rfl (fun hq => (by cases hq)) (fun hq => ?_)
      repeat' first | refine c_reg' rfl fun K E hK hE => ?_ | (refine r_opN fun κ η => ?_; simp only [go_sem, Nat.reduceLT, Nat.reduceEqDiff, Nat.reduceAdd, Nat.reduceMul, Nat.reduceLeDiff, Nat.le_refl, reduceIte, reduceCtorEq]; (repeat refine ⟨by omega, ?_⟩); refine η _ ?_; clear η κ) | (refine r_nil (hK _ ?_); clear hE hK E K) | refine q_seq ?_ | refine q_blk ?_ | refine c_exit ?_ | refine q_seqE ?_ | refine q_blkHit ?_ | refine q_lpE ?_ | refine q_lpN ?_
      exact ⟨(v + 1).toNat - (r + 1), by omega, r + 1, _, _, _, _, rfl, by omega, nf_of rfl ⟨rfl, rfl, rfl, rfl, rfl, trivial⟩ trivial, h7, h6, hexit hsw, hlen⟩
    | false =>
      obtain ⟨hcl, hcx⟩ := hcs c (List.mem_of_getElem? hc)
      have h1 := rone_ct20 Hy on' c false (by omega) hcl (fun x hx => inT_of hlen (hcx x hx))
      simp only [tabT, iL] at h1
      repeat' first | refine c_seq ?_ | refine c_reg' rfl fun K E hK hE => ?_ | ((first | refine r_opN fun κ η => ?_ | refine r_opG rfl fun κ η => ?_); simp only [go_sem, Nat.reduceLT, Nat.reduceEqDiff, Nat.reduceAdd, Nat.reduceMul, Nat.reduceLeDiff, Nat.le_refl, reduceIte, reduceCtorEq, h7, c2]; (repeat refine ⟨by omega, ?_⟩); refine η _ ?_; clear η κ) | (refine r_nil (hK _ ?_); clear hE hK E K) | refine q_seq ?_
      refine c_cond _ rfl (fun hq => ?_) (fun hq => (by cases hq))
      repeat' first | refine c_seq ?_ | refine c_block ?_ | refine c_draw' rfl (by kernel_rfl) fun K E hK hE => ?_ | (refine d_opN (by kernel_rfl) fun κ η => ?_; simp only [go_sem, Nat.reduceLT, Nat.reduceEqDiff, Nat.reduceAdd, Nat.reduceMul, Nat.reduceLeDiff, Nat.le_refl, reduceIte, reduceCtorEq, h7, hc, iL]; (repeat refine ⟨by omega, ?_⟩); refine η _ ?_; clear η κ) | refine q_seq ?_ | refine c_skip ?_
      refine d_opN (by kernel_rfl) fun κ η => ?_; simp only [go_sem, Nat.reduceLT, Nat.reduceEqDiff, Nat.reduceAdd, Nat.reduceMul, Nat.reduceLeDiff, Nat.le_refl, reduceIte, reduceCtorEq]; refine ⟨_, h1, ?_⟩; simp only [go_sem, Nat.reduceLT, Nat.reduceEqDiff, Nat.reduceAdd, Nat.reduceMul, Nat.reduceLeDiff, Nat.le_refl, reduceIte, reduceCtorEq]; refine η _ ?_; clear η κ
      repeat' first | refine c_reg' rfl fun K E hK hE => ?_ | ((first | refine r_opN fun κ η => ?_ | refine d_opN (by kernel_rfl) fun κ η => ?_); simp only [go_sem, Nat.reduceLT, Nat.reduceEqDiff, Nat.reduceAdd, Nat.reduceMul, Nat.reduceLeDiff, Nat.le_refl, reduceIte, reduceCtorEq, h7]; (repeat refine ⟨by omega, ?_⟩); refine η _ ?_; clear η κ) | (refine r_nil (hK _ ?_); clear hE hK E K) | refine q_seq ?_ | (refine d_nil (hK _ ?_); clear hE hK E K) | refine q_blk ?_ | refine q_lpN ?_
      exact ⟨cs.length - (n + 1), by omega, n + 1, _, _, _, _, rfl, by omega, nf_of rfl ⟨rfl, rfl, rfl, rfl, rfl, rfl, trivial⟩ trivial, rfl, h6, hsw, by rw [one_len]; exact hlen⟩
end Go.Proofs.Ytfflfmpkjcomgaa
namespace Go.Proofs.Ytfflfmpkjcomgaa
open Go.RowKit
set_option maxRecDepth 100000
set_option linter.unusedSimpArgs false
variable (Hy : World → Prop)
attribute [local irreducible] runM runD cwp seqQ blkQ lpQ retQ asQ bdQ bdY retP
theorem turn_take {c : List Int} {k : Nat} {y : Int} (hy : c[k]? = some y) : turn (c.take (k + 1)) = turn (c.take k) ++ [0 - y] := by
  rw [List.take_add_one, hy]
  simp [turn]
theorem rrup_ct (cs : List (List Int)) (v : Int) (c : List Int) (hv : 0 ≤ v ∧ v ≤ 20000) (hcs : ∀ c ∈ cs, c.length ≤ 1000000 ∧ ∀ x ∈ c, LitV v x) (hn : cs.length ≤ 1000000) (hc : ∀ x ∈ c, LitV v x) (hcl : c.length ≤ 1000000) :
    Ct Try.prog Hy 34 [cL cs, .i .i64 v, iL c] [.b (reachF cs v (turn c)).2] := by
  have htl : ∀ x ∈ turn c, LitV v x := fun x hx => by
    obtain ⟨y, hy, rfl⟩ := List.mem_map.1 hx
    exact (hc y hy).neg
  have hre := reach_ct Hy cs v (turn c) hv hcs hn htl (by simp [turn]; omega)
  generalize reachF cs v (turn c) = R at hre ⊢
  simp only [cL, iL, tabT] at hre
  refine ct_of (cls := _root_.id) tt_ok follows_ Try.func34 rfl (by decide) (Nat.le_of_ble_eq_true rfl) ?_
  rw [show Try.f34.ntmps = 30 from rfl, s0_nf]
  simp only [List.zipIdx_cons, List.zipIdx_nil, List.map_cons, List.map_nil, Nat.reduceAdd, cL, iL]
  repeat' first | refine c_seq ?_ | refine c_block ?_ | refine c_reg' rfl fun K E hK hE => ?_ | (refine r_opN fun κ η => ?_; simp only [go_sem, Nat.reduceLT, Nat.reduceEqDiff, Nat.reduceAdd, Nat.reduceMul, Nat.reduceLeDiff, Nat.le_refl, reduceIte, reduceCtorEq]; refine η _ ?_; clear η κ) | (refine r_nil (hK _ ?_); clear hE hK E K) | refine q_seq ?_
  refine c_loop (fun m s' => ∃ k F oc x, m = c.length - k ∧ k ≤ c.length ∧ s' = nf 30 F oc [(0, .t (cL cs)), (1, .t (.i .i64 v)), (2, .t (iL c)), (7, x), (8, .t (.i .i64 (k : Nat)))] [] ∧ (oc 9).gen = 0 ∧ ((turn (c.take k) = [] ∧ x = .nilS) ∨ ∃ n, x = .row 23 n ∧ oc 23 = ⟨n, .row 3 1 ((turn (c.take k)).map fun x => [.i .i64 x])⟩)) c.length ?_ ?_
  · exact ⟨0, _, _, _, by omega, by omega, nf_of rfl ⟨rfl, rfl, rfl, rfl, rfl, trivial⟩ trivial, rfl, .inl ⟨rfl, rfl⟩⟩
  rintro m s' ⟨k, F, oc, x, rfl, hk, rfl, h9, hx⟩
  simp only [cL, iL]
  repeat' first | refine c_seq ?_ | refine c_reg' rfl fun K E hK hE => ?_ | (refine r_opN fun κ η => ?_; simp only [go_sem, Nat.reduceLT, Nat.reduceEqDiff, Nat.reduceAdd, Nat.reduceMul, Nat.reduceLeDiff, Nat.le_refl, reduceIte, reduceCtorEq]; refine η _ ?_; clear η κ) | (refine r_nil (hK _ ?_); clear hE hK E K) | refine q_seq ?_
  refine c_cond _ rfl (fun hq => ?_) (fun hq => ?_)
  · simp only [decide_eq_true_eq] at hq
    obtain ⟨y, hy⟩ : ∃ y, c[k]? = some y := ⟨_, List.getElem?_eq_getElem (by omega)⟩
    have hly := hc y (List.mem_of_getElem? hy)
    have hw : IntKind.wrap .i64 (0 - y) = 0 - y := inR_wrap (by simp only [inR]; unfold LitV at hly; omega)
    have htk := turn_take hy
    have hlen : (turn (c.take k)).length = k := by simp [turn]; omega
    generalize turn (c.take k) = w at hx htk hlen
    rcases hx with ⟨rfl, rfl⟩ | ⟨n, rfl, hn⟩
    · repeat' first | refine c_seq ?_ | refine c_block ?_ | refine c_reg' rfl fun K E hK hE => ?_ | (refine r_opN fun κ η => ?_; simp only [go_sem, Nat.reduceLT, Nat.reduceEqDiff, Nat.reduceAdd, Nat.reduceMul, Nat.reduceLeDiff, Nat.le_refl, reduceIte, reduceCtorEq, hy, hw]; (repeat refine ⟨by omega, ?_⟩); refine η _ ?_; clear η κ) | (refine r_nil (hK _ ?_); clear hE hK E K) | refine q_seq ?_ | refine q_blk ?_ | refine c_skip ?_ | refine q_lpN ?_
      exact ⟨c.length - (k + 1), by omega, k + 1, _, _, _, rfl, by omega, nf_of rfl ⟨rfl, rfl, rfl, rfl, rfl, trivial⟩ trivial, h9, .inr ⟨_, rfl, by rw [htk]; rfl⟩⟩
    · repeat' first | refine c_seq ?_ | refine c_block ?_ | refine c_reg' rfl fun K E hK hE => ?_ | (refine r_opN fun κ η => ?_; simp only [go_sem, Nat.reduceLT, Nat.reduceEqDiff, Nat.reduceAdd, Nat.reduceMul, Nat.reduceLeDiff, Nat.le_refl, reduceIte, reduceCtorEq, hy, hn, hw]; (repeat refine ⟨by omega, ?_⟩); refine η _ ?_; clear η κ) | (refine r_nil (hK _ ?_); clear hE hK E K) | refine q_seq ?_ | refine q_blk ?_ | refine c_skip ?_ | refine q_lpN ?_
      exact ⟨c.length - (k + 1), by omega, k + 1, _, _, _, rfl, by omega, nf_of rfl ⟨rfl, rfl, rfl, rfl, rfl, trivial⟩ trivial, h9, .inr ⟨_, rfl, by rw [htk, List.map_append]; rfl⟩⟩
  · simp only [decide_eq_false_iff_not] at hq
    rw [List.take_of_length_le (by omega)] at hx
    rcases hx with ⟨h0, rfl⟩ | ⟨n, rfl, hn⟩
    · rw [h0] at hre
      simp only [List.map_nil] at hre
      repeat' first | refine c_seq ?_ | refine c_reg' rfl fun K E hK hE => ?_ | (refine r_opN fun κ η => ?_; simp only [go_sem, Nat.reduceLT, Nat.reduceEqDiff, Nat.reduceAdd, Nat.reduceMul, Nat.reduceLeDiff, Nat.le_refl, reduceIte, reduceCtorEq]; refine η _ ?_; clear η κ) | refine q_seq ?_ | refine c_exit ?_ | refine q_seqE ?_ | refine q_blkHit ?_ | refine q_lpE ?_
      refine r_opN fun κ η => ?_; simp only [go_sem, Nat.reduceLT, Nat.reduceEqDiff, Nat.reduceAdd, Nat.reduceMul, Nat.reduceLeDiff, Nat.le_refl, reduceIte, reduceCtorEq]; refine ⟨_, hre, ?_⟩; simp only [go_sem, Nat.reduceLT, Nat.reduceEqDiff, Nat.reduceAdd, Nat.reduceMul, Nat.reduceLeDiff, Nat.le_refl, reduceIte, reduceCtorEq]; refine η _ ?_; clear η κ
      repeat' first | refine c_seq ?_ | refine c_reg' rfl fun K E hK hE => ?_ | (refine r_opN fun κ η => ?_; simp only [go_sem, Nat.reduceLT, Nat.reduceEqDiff, Nat.reduceAdd, Nat.reduceMul, Nat.reduceLeDiff, Nat.le_refl, reduceIte, reduceCtorEq]; (repeat refine ⟨by omega, ?_⟩); refine η _ ?_; clear η κ) | (refine r_nil (hK _ ?_); clear hE hK E K) | refine q_seq ?_ | refine c_ret ?_ | (refine q_ret ?_; refine q_r1 ?_; simp only [go_sem, Nat.reduceLT, Nat.reduceEqDiff, Nat.reduceAdd, Nat.reduceMul, Nat.reduceLeDiff, Nat.le_refl, reduceIte, reduceCtorEq])
    · repeat' first | refine c_seq ?_ | refine c_reg' rfl fun K E hK hE => ?_ | (refine r_opN fun κ η => ?_; simp only [go_sem, Nat.reduceLT, Nat.reduceEqDiff, Nat.reduceAdd, Nat.reduceMul, Nat.reduceLeDiff, Nat.le_refl, reduceIte, reduceCtorEq]; refine η _ ?_; clear η κ) | refine q_seq ?_ | refine c_exit ?_ | refine q_seqE ?_ | refine q_blkHit ?_ | refine q_lpE ?_
      refine r_opN fun κ η => ?_; simp only [go_sem, Nat.reduceLT, Nat.reduceEqDiff, Nat.reduceAdd, Nat.reduceMul, Nat.reduceLeDiff, Nat.le_refl, reduceIte, reduceCtorEq, hn]; refine ⟨_, hre, ?_⟩; simp only [go_sem, Nat.reduceLT, Nat.reduceEqDiff, Nat.reduceAdd, Nat.reduceMul, Nat.reduceLeDiff, Nat.le_refl, reduceIte, reduceCtorEq, hn]; refine η _ ?_; clear η κ
      repeat' first | refine c_seq ?_ | refine c_reg' rfl fun K E hK hE => ?_ | (refine r_opN fun κ η => ?_; simp only [go_sem, Nat.reduceLT, Nat.reduceEqDiff, Nat.reduceAdd, Nat.reduceMul, Nat.reduceLeDiff, Nat.le_refl, reduceIte, reduceCtorEq]; (repeat refine ⟨by omega, ?_⟩); refine η _ ?_; clear η κ) | (refine r_nil (hK _ ?_); clear hE hK E K) | refine q_seq ?_ | refine c_ret ?_ | (refine q_ret ?_; refine q_r1 ?_; simp only [go_sem, Nat.reduceLT, Nat.reduceEqDiff, Nat.reduceAdd, Nat.reduceMul, Nat.reduceLeDiff, Nat.le_refl, reduceIte, reduceCtorEq])
theorem all_bad (l : List Int) (v : Int) : (l.all fun x => !badL v x) = !(l.any (badL v)) := by
  induction l with
  | nil => rfl
  | cons x l ih => rw [List.all_cons, List.any_cons, ih, Bool.not_or]
theorem rRup_ct (cs : List (List Int)) (v : Int) (c : List Int) (hcs : ∀ c ∈ cs, c.length ≤ 1000000) (hcl : c.length ≤ 1000000) :
    Ct Try.prog Hy 14 [cL cs, .i .i64 v, iL c] (if chkA cs v [c] = 0 then [.b (reachF cs v (turn c)).2, .i .i64 0] else [.b false, .i .i64 (chkA cs v [c])]) := by
  have hck := rcheck19_ct Hy cs v hcs
  simp only [cL] at hck
  have hch : chkA cs v [c] = if cnfCheck cs v = 0 then (if c.any (badL v) then 1 else 0) else cnfCheck cs v := by
    unfold chkA
    simp
  by_cases h0 : cnfCheck cs v = 0
  case neg =>
    rw [if_neg h0] at hch
    rw [hch, if_neg h0]
    refine ct_of (cls := _root_.id) tt_ok follows_ Try.func14 rfl (by decide) (Nat.le_of_ble_eq_true rfl) ?_
    rw [show Try.f14.ntmps = 23 from rfl, s0_nf]
    simp only [List.zipIdx_cons, List.zipIdx_nil, List.map_cons, List.map_nil, Nat.reduceAdd, cL, iL]
    repeat' first | refine c_seq ?_ | refine c_reg' rfl fun K E hK hE => ?_ | (refine r_opN fun κ η => ?_; simp only [go_sem, Nat.reduceLT, Nat.reduceEqDiff, Nat.reduceAdd, Nat.reduceMul, Nat.reduceLeDiff, Nat.le_refl, reduceIte, reduceCtorEq]; refine η _ ?_; clear η κ) | (refine r_nil (hK _ ?_); clear hE hK E K) | refine q_seq ?_
    refine r_opN fun κ η => ?_; simp only [go_sem, Nat.reduceLT, Nat.reduceEqDiff, Nat.reduceAdd, Nat.reduceMul, Nat.reduceLeDiff, Nat.le_refl, reduceIte, reduceCtorEq]; refine ⟨_, hck, ?_⟩; simp only [go_sem, Nat.reduceLT, Nat.reduceEqDiff, Nat.reduceAdd, Nat.reduceMul, Nat.reduceLeDiff, Nat.le_refl, reduceIte, reduceCtorEq]; refine η _ ?_; clear η κ
    repeat' first | refine c_seq ?_ | refine c_reg' rfl fun K E hK hE => ?_ | (refine r_opN fun κ η => ?_; simp only [go_sem, Nat.reduceLT, Nat.reduceEqDiff, Nat.reduceAdd, Nat.reduceMul, Nat.reduceLeDiff, Nat.le_refl, reduceIte, reduceCtorEq, h0]; refine η _ ?_; clear η κ) | (refine r_nil (hK _ ?_); clear hE hK E K) | refine q_seq ?_
    refine c_cond _ rfl (fun hq => ?_) (fun hq => (by simp [h0] at hq))
    repeat' first | refine c_seq ?_ | refine c_reg' rfl fun K E hK hE => ?_ | (refine r_opN fun κ η => ?_; simp only [go_sem, Nat.reduceLT, Nat.reduceEqDiff, Nat.reduceAdd, Nat.reduceMul, Nat.reduceLeDiff, Nat.le_refl, reduceIte, reduceCtorEq]; refine η _ ?_; clear η κ) | (refine r_nil (hK _ ?_); clear hE hK E K) | refine q_seq ?_ | refine c_ret ?_ | refine q_seqR ?_ | (refine q_ret ?_; refine q_r1 ?_; simp only [go_sem, Nat.reduceLT, Nat.reduceEqDiff, Nat.reduceAdd, Nat.reduceMul, Nat.reduceLeDiff, Nat.le_refl, reduceIte, reduceCtorEq])
  rw [if_pos h0] at hch
  rw [h0] at hck
  have hv : 0 ≤ v ∧ v ≤ 20000 := by
    unfold cnfCheck at h0
    split at h0
    · cases h0
    · omega
  have hli := rlits_ct Hy c v hv hcl
  rw [all_bad] at hli
  simp only [iL] at hli
  by_cases hb : c.any (badL v) = true
  · rw [if_pos hb] at hch
    rw [hch, if_neg (by decide)]
    rw [hb] at hli
    refine ct_of (cls := _root_.id) tt_ok follows_ Try.func14 rfl (by decide) (Nat.le_of_ble_eq_true rfl) ?_
    rw [show Try.f14.ntmps = 23 from rfl, s0_nf]
    simp only [List.zipIdx_cons, List.zipIdx_nil, List.map_cons, List.map_nil, Nat.reduceAdd, cL, iL]
    repeat' first | refine c_seq ?_ | refine c_reg' rfl fun K E hK hE => ?_ | (refine r_opN fun κ η => ?_; simp only [go_sem, Nat.reduceLT, Nat.reduceEqDiff, Nat.reduceAdd, Nat.reduceMul, Nat.reduceLeDiff, Nat.le_refl, reduceIte, reduceCtorEq]; refine η _ ?_; clear η κ) | (refine r_nil (hK _ ?_); clear hE hK E K) | refine q_seq ?_
    refine r_opN fun κ η => ?_; simp only [go_sem, Nat.reduceLT, Nat.reduceEqDiff, Nat.reduceAdd, Nat.reduceMul, Nat.reduceLeDiff, Nat.le_refl, reduceIte, reduceCtorEq]; refine ⟨_, hck, ?_⟩; simp only [go_sem, Nat.reduceLT, Nat.reduceEqDiff, Nat.reduceAdd, Nat.reduceMul, Nat.reduceLeDiff, Nat.le_refl, reduceIte, reduceCtorEq]; refine η _ ?_; clear η κ
    repeat' first | refine c_seq ?_ | refine c_reg' rfl fun K E hK hE => ?_ | (refine r_opN fun κ η => ?_; simp only [go_sem, Nat.reduceLT, Nat.reduceEqDiff, Nat.reduceAdd, Nat.reduceMul, Nat.reduceLeDiff, Nat.le_refl, reduceIte, reduceCtorEq]; refine η _ ?_; clear η κ) | (refine r_nil (hK _ ?_); clear hE hK E K) | refine q_seq ?_
    refine c_cond _ rfl (fun hq => (by cases hq)) (fun hq => ?_)
    repeat' first | refine c_seq ?_ | refine c_reg' rfl fun K E hK hE => ?_ | (refine r_opN fun κ η => ?_; simp only [go_sem, Nat.reduceLT, Nat.reduceEqDiff, Nat.reduceAdd, Nat.reduceMul, Nat.reduceLeDiff, Nat.le_refl, reduceIte, reduceCtorEq]; refine η _ ?_; clear η κ) | refine q_seq ?_ | refine c_skip ?_
    refine r_opN fun κ η => ?_; simp only [go_sem, Nat.reduceLT, Nat.reduceEqDiff, Nat.reduceAdd, Nat.reduceMul, Nat.reduceLeDiff, Nat.le_refl, reduceIte, reduceCtorEq]; refine ⟨_, hli, ?_⟩; simp only [go_sem, Nat.reduceLT, Nat.reduceEqDiff, Nat.reduceAdd, Nat.reduceMul, Nat.reduceLeDiff, Nat.le_refl, reduceIte, reduceCtorEq]; refine η _ ?_; clear η κ
    repeat' first | (refine r_opN fun κ η => ?_; simp only [go_sem, Nat.reduceLT, Nat.reduceEqDiff, Nat.reduceAdd, Nat.reduceMul, Nat.reduceLeDiff, Nat.le_refl, reduceIte, reduceCtorEq]; refine η _ ?_; clear η κ) | (refine r_nil (hK _ ?_); clear hE hK E K) | refine q_seq ?_
    refine c_cond _ rfl (fun hq => ?_) (fun hq => (by cases hq))
    repeat' first | refine c_seq ?_ | refine c_reg' rfl fun K E hK hE => ?_ | (refine r_opN fun κ η => ?_; simp only [go_sem, Nat.reduceLT, Nat.reduceEqDiff, Nat.reduceAdd, Nat.reduceMul, Nat.reduceLeDiff, Nat.le_refl, reduceIte, reduceCtorEq]; refine η _ ?_; clear η κ) | (refine r_nil (hK _ ?_); clear hE hK E K) | refine q_seq ?_ | refine c_ret ?_ | refine q_seqR ?_ | (refine q_ret ?_; refine q_r1 ?_; simp only [go_sem, Nat.reduceLT, Nat.reduceEqDiff, Nat.reduceAdd, Nat.reduceMul, Nat.reduceLeDiff, Nat.le_refl, reduceIte, reduceCtorEq])
  · rw [if_neg hb] at hch
    rw [hch, if_pos rfl]
    obtain ⟨_, hn, hc1, hc2⟩ := chk_ok hch
    have hr := rrup_ct Hy cs v c hv (fun c hc => ⟨hcs c hc, hc1 c hc⟩) (by omega) (hc2 c List.mem_cons_self) hcl
    rw [show c.any (badL v) = false by simpa using hb] at hli
    simp only [cL, iL] at hr
    refine ct_of (cls := _root_.id) tt_ok follows_ Try.func14 rfl (by decide) (Nat.le_of_ble_eq_true rfl) ?_
    rw [show Try.f14.ntmps = 23 from rfl, s0_nf]
    simp only [List.zipIdx_cons, List.zipIdx_nil, List.map_cons, List.map_nil, Nat.reduceAdd, cL, iL]
    repeat' first | refine c_seq ?_ | refine c_reg' rfl fun K E hK hE => ?_ | (refine r_opN fun κ η => ?_; simp only [go_sem, Nat.reduceLT, Nat.reduceEqDiff, Nat.reduceAdd, Nat.reduceMul, Nat.reduceLeDiff, Nat.le_refl, reduceIte, reduceCtorEq]; refine η _ ?_; clear η κ) | (refine r_nil (hK _ ?_); clear hE hK E K) | refine q_seq ?_
    refine r_opN fun κ η => ?_; simp only [go_sem, Nat.reduceLT, Nat.reduceEqDiff, Nat.reduceAdd, Nat.reduceMul, Nat.reduceLeDiff, Nat.le_refl, reduceIte, reduceCtorEq]; refine ⟨_, hck, ?_⟩; simp only [go_sem, Nat.reduceLT, Nat.reduceEqDiff, Nat.reduceAdd, Nat.reduceMul, Nat.reduceLeDiff, Nat.le_refl, reduceIte, reduceCtorEq]; refine η _ ?_; clear η κ
    repeat' first | refine c_seq ?_ | refine c_reg' rfl fun K E hK hE => ?_ | (refine r_opN fun κ η => ?_; simp only [go_sem, Nat.reduceLT, Nat.reduceEqDiff, Nat.reduceAdd, Nat.reduceMul, Nat.reduceLeDiff, Nat.le_refl, reduceIte, reduceCtorEq]; refine η _ ?_; clear η κ) | (refine r_nil (hK _ ?_); clear hE hK E K) | refine q_seq ?_
    refine c_cond _ rfl (fun hq => (by cases hq)) (fun hq => ?_)
    repeat' first | refine c_seq ?_ | refine c_reg' rfl fun K E hK hE => ?_ | (refine r_opN fun κ η => ?_; simp only [go_sem, Nat.reduceLT, Nat.reduceEqDiff, Nat.reduceAdd, Nat.reduceMul, Nat.reduceLeDiff, Nat.le_refl, reduceIte, reduceCtorEq]; refine η _ ?_; clear η κ) | refine q_seq ?_ | refine c_skip ?_
    refine r_opN fun κ η => ?_; simp only [go_sem, Nat.reduceLT, Nat.reduceEqDiff, Nat.reduceAdd, Nat.reduceMul, Nat.reduceLeDiff, Nat.le_refl, reduceIte, reduceCtorEq]; refine ⟨_, hli, ?_⟩; simp only [go_sem, Nat.reduceLT, Nat.reduceEqDiff, Nat.reduceAdd, Nat.reduceMul, Nat.reduceLeDiff, Nat.le_refl, reduceIte, reduceCtorEq]; refine η _ ?_; clear η κ
    repeat' first | (refine r_opN fun κ η => ?_; simp only [go_sem, Nat.reduceLT, Nat.reduceEqDiff, Nat.reduceAdd, Nat.reduceMul, Nat.reduceLeDiff, Nat.le_refl, reduceIte, reduceCtorEq]; refine η _ ?_; clear η κ) | (refine r_nil (hK _ ?_); clear hE hK E K) | refine q_seq ?_
    refine c_cond _ rfl (fun hq => (by cases hq)) (fun hq => ?_)
    repeat' first | refine c_seq ?_ | refine c_reg' rfl fun K E hK hE => ?_ | (refine r_opN fun κ η => ?_; simp only [go_sem, Nat.reduceLT, Nat.reduceEqDiff, Nat.reduceAdd, Nat.reduceMul, Nat.reduceLeDiff, Nat.le_refl, reduceIte, reduceCtorEq]; refine η _ ?_; clear η κ) | refine q_seq ?_ | refine c_skip ?_
    refine r_opN fun κ η => ?_; simp only [go_sem, Nat.reduceLT, Nat.reduceEqDiff, Nat.reduceAdd, Nat.reduceMul, Nat.reduceLeDiff, Nat.le_refl, reduceIte, reduceCtorEq]; refine ⟨_, hr, ?_⟩; simp only [go_sem, Nat.reduceLT, Nat.reduceEqDiff, Nat.reduceAdd, Nat.reduceMul, Nat.reduceLeDiff, Nat.le_refl, reduceIte, reduceCtorEq]; refine η _ ?_; clear η κ
    repeat' first | (refine r_opN fun κ η => ?_; simp only [go_sem, Nat.reduceLT, Nat.reduceEqDiff, Nat.reduceAdd, Nat.reduceMul, Nat.reduceLeDiff, Nat.le_refl, reduceIte, reduceCtorEq]; refine η _ ?_; clear η κ) | (refine r_nil (hK _ ?_); clear hE hK E K) | refine q_seq ?_ | refine c_ret ?_ | (refine q_ret ?_; refine q_r1 ?_; simp only [go_sem, Nat.reduceLT, Nat.reduceEqDiff, Nat.reduceAdd, Nat.reduceMul, Nat.reduceLeDiff, Nat.le_refl, reduceIte, reduceCtorEq])
end Go.Proofs.Ytfflfmpkjcomgaa
