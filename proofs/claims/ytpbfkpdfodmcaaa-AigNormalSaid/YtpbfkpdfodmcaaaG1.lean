import Derived.Test.YtpbfkpdfodmcaaaA9
import Derived.Test.YtpbfkpdfodmcaaaA4
import Derived.Test.YtpbfkpdfodmcaaaEng18
namespace Go.Proofs.Ytpbfkpdfodmcaaa
open Go.RowKit
set_option maxRecDepth 100000
set_option linter.unusedSimpArgs false
variable (Hy : World → Prop)
attribute [local irreducible] runM runD cwp seqQ blkQ lpQ retQ
theorem cloneI_ct (l : List Int) (h : l.length ≤ 1000000) : Ct Try.prog Hy 98 [iL l] [iL l] := by
  have hz : ∀ e ∈ l.map (fun x => [T.i .i64 x]), e.length = 1 := fun e he => by
    obtain ⟨x, _, rfl⟩ := List.mem_map.1 he
    rfl
  refine ct_of (cls := _root_.id) tt_ok follows_ Try.func98 rfl (by decide) (Nat.le_of_ble_eq_true rfl) ?_
  rw [show Try.f98.ntmps = 8 from rfl, s0_nf]
  simp only [List.zipIdx_cons, List.zipIdx_nil, List.map_cons, List.map_nil, Nat.reduceAdd, iL]
  repeat' first | refine c_seq ?_ | refine c_reg' rfl fun K hK => ?_ | (refine r_opN fun κ η => ?_; simp only [go_sem, Nat.reduceLT, Nat.reduceEqDiff, Nat.reduceAdd, Nat.reduceMul, Nat.reduceLeDiff, Nat.le_refl, reduceIte, reduceCtorEq]; refine η _ ?_; clear η κ) | (refine r_nil (hK _ ?_); clear hK K) | refine q_seq ?_
  refine r_nilE fun κ η => ?_; simp only [go_sem, Nat.reduceLT, Nat.reduceEqDiff, Nat.reduceAdd, Nat.reduceMul, Nat.reduceLeDiff, Nat.le_refl, reduceIte, reduceCtorEq]; refine ⟨η _ ?_, fun nil_ => η _ ?_⟩ <;> clear η κ
  · repeat' first | (refine r_nil (hK _ ?_); clear hK K) | refine q_seq ?_
    refine c_cond _ rfl (fun hq => (by cases hq)) (fun hq => ?_)
    repeat' first | refine c_seq ?_ | refine c_reg' rfl fun K hK => ?_ | (refine r_opN fun κ η => ?_; simp only [go_sem, Nat.reduceLT, Nat.reduceEqDiff, Nat.reduceAdd, Nat.reduceMul, Nat.reduceLeDiff, Nat.le_refl, reduceIte, reduceCtorEq, hz]; (repeat refine ⟨by omega, ?_⟩); refine η _ ?_; clear η κ) | (refine r_nil (hK _ ?_); clear hK K) | refine q_seq ?_ | refine c_skip ?_ | refine c_ret ?_ | (refine q_ret ?_; refine q_r1 ?_; simp only [go_sem, Nat.reduceLT, Nat.reduceEqDiff, Nat.reduceAdd, Nat.reduceMul, Nat.reduceLeDiff, Nat.le_refl, reduceIte, reduceCtorEq, hz])
  · repeat' first | (refine r_nil (hK _ ?_); clear hK K) | refine q_seq ?_
    refine c_cond _ rfl (fun hq => ?_) (fun hq => (by cases hq))
    repeat' first | refine c_seq ?_ | refine c_reg' rfl fun K hK => ?_ | (refine r_opN fun κ η => ?_; simp only [go_sem, Nat.reduceLT, Nat.reduceEqDiff, Nat.reduceAdd, Nat.reduceMul, Nat.reduceLeDiff, Nat.le_refl, reduceIte, reduceCtorEq, nil_]; refine η _ ?_; clear η κ) | (refine r_nil (hK _ ?_); clear hK K) | refine q_seq ?_ | refine c_ret ?_ | refine q_seqR ?_ | (refine q_ret ?_; refine q_r1 ?_; simp only [go_sem, Nat.reduceLT, Nat.reduceEqDiff, Nat.reduceAdd, Nat.reduceMul, Nat.reduceLeDiff, Nat.le_refl, reduceIte, reduceCtorEq, nil_])
theorem cloneP_ct (l : List (Int × Int)) (h : l.length ≤ 1000000) : Ct Try.prog Hy 104 [pL l] [pL l] := by
  have hz : ∀ e ∈ l.map (fun x => [T.i .i64 x.1, T.i .i64 x.2]), e.length = 2 := fun e he => by
    obtain ⟨x, _, rfl⟩ := List.mem_map.1 he
    rfl
  refine ct_of (cls := _root_.id) tt_ok follows_ Try.func104 rfl (by decide) (Nat.le_of_ble_eq_true rfl) ?_
  rw [show Try.f104.ntmps = 8 from rfl, s0_nf]
  simp only [List.zipIdx_cons, List.zipIdx_nil, List.map_cons, List.map_nil, Nat.reduceAdd, pL]
  repeat' first | refine c_seq ?_ | refine c_reg' rfl fun K hK => ?_ | (refine r_opN fun κ η => ?_; simp only [go_sem, Nat.reduceLT, Nat.reduceEqDiff, Nat.reduceAdd, Nat.reduceMul, Nat.reduceLeDiff, Nat.le_refl, reduceIte, reduceCtorEq]; refine η _ ?_; clear η κ) | (refine r_nil (hK _ ?_); clear hK K) | refine q_seq ?_
  refine r_nilE fun κ η => ?_; simp only [go_sem, Nat.reduceLT, Nat.reduceEqDiff, Nat.reduceAdd, Nat.reduceMul, Nat.reduceLeDiff, Nat.le_refl, reduceIte, reduceCtorEq]; refine ⟨η _ ?_, fun nil_ => η _ ?_⟩ <;> clear η κ
  · repeat' first | (refine r_nil (hK _ ?_); clear hK K) | refine q_seq ?_
    refine c_cond _ rfl (fun hq => (by cases hq)) (fun hq => ?_)
    repeat' first | refine c_seq ?_ | refine c_reg' rfl fun K hK => ?_ | (refine r_opN fun κ η => ?_; simp only [go_sem, Nat.reduceLT, Nat.reduceEqDiff, Nat.reduceAdd, Nat.reduceMul, Nat.reduceLeDiff, Nat.le_refl, reduceIte, reduceCtorEq, hz]; (repeat refine ⟨by omega, ?_⟩); refine η _ ?_; clear η κ) | (refine r_nil (hK _ ?_); clear hK K) | refine q_seq ?_ | refine c_skip ?_ | refine c_ret ?_ | (refine q_ret ?_; refine q_r1 ?_; simp only [go_sem, Nat.reduceLT, Nat.reduceEqDiff, Nat.reduceAdd, Nat.reduceMul, Nat.reduceLeDiff, Nat.le_refl, reduceIte, reduceCtorEq, hz])
  · repeat' first | (refine r_nil (hK _ ?_); clear hK K) | refine q_seq ?_
    refine c_cond _ rfl (fun hq => ?_) (fun hq => (by cases hq))
    repeat' first | refine c_seq ?_ | refine c_reg' rfl fun K hK => ?_ | (refine r_opN fun κ η => ?_; simp only [go_sem, Nat.reduceLT, Nat.reduceEqDiff, Nat.reduceAdd, Nat.reduceMul, Nat.reduceLeDiff, Nat.le_refl, reduceIte, reduceCtorEq, nil_]; refine η _ ?_; clear η κ) | (refine r_nil (hK _ ?_); clear hK K) | refine q_seq ?_ | refine c_ret ?_ | refine q_seqR ?_ | (refine q_ret ?_; refine q_r1 ?_; simp only [go_sem, Nat.reduceLT, Nat.reduceEqDiff, Nat.reduceAdd, Nat.reduceMul, Nat.reduceLeDiff, Nat.le_refl, reduceIte, reduceCtorEq, nil_])
/-- where it stands first -/
def idxP (l : List (Int × Int)) (a : Int × Int) : Int := ixI (fun x => decide (a.1 = x.1 ∧ a.2 = x.2)) l
theorem indexP_ct (l : List (Int × Int)) (a : Int × Int) (h : l.length ≤ 140737488355328) : Ct Try.prog Hy 78 [pL l, .ag [.i .i64 a.1, .i .i64 a.2]] [.i .i64 (idxP l a)] := by
  refine ct_of (cls := _root_.id) tt_ok follows_ Try.func78 rfl (by decide) (Nat.le_of_ble_eq_true rfl) ?_
  rw [show Try.f78.ntmps = 19 from rfl, s0_nf]
  simp only [List.zipIdx_cons, List.zipIdx_nil, List.map_cons, List.map_nil, Nat.reduceAdd, pL]
  repeat' first | refine c_seq ?_ | refine c_block ?_ | refine c_reg' rfl fun K hK => ?_ | (refine r_opN fun κ η => ?_; simp only [go_sem, Nat.reduceLT, Nat.reduceEqDiff, Nat.reduceAdd, Nat.reduceMul, Nat.reduceLeDiff, Nat.le_refl, reduceIte, reduceCtorEq]; refine η _ ?_; clear η κ) | (refine r_nil (hK _ ?_); clear hK K) | refine q_seq ?_
  refine c_loop (fun m s' => ∃ k : Nat, m = l.length - k ∧ k ≤ l.length ∧ (∀ (j : Nat) y, j < k → l[j]? = some y → decide (a.1 = y.1 ∧ a.2 = y.2) = false) ∧ ∃ F G0, s' = nf 19 F G0 [(0, .t (pL l)), (3, .ptr 3 1 0), (6, .t (pL l)), (7, .t (.i .i64 l.length)), (8, .t (.i .i64 k))] [(3, ⟨1, .cells 77 [.t (.i .i64 a.1), .t (.i .i64 a.2)]⟩)]) (l.length) ?_ ?_
  · exact ⟨0, by omega, by omega, fun j x hj => absurd hj (Nat.not_lt_zero j), _, _, nf_of rfl ⟨rfl, rfl, rfl, rfl, rfl, trivial⟩ ⟨rfl, trivial⟩⟩
  rintro m s' ⟨k, rfl, hk, hno, F, G0, rfl⟩
  simp only [pL]
  repeat' first | refine c_seq ?_ | refine c_reg' rfl fun K hK => ?_ | (refine r_opN fun κ η => ?_; simp only [go_sem, Nat.reduceLT, Nat.reduceEqDiff, Nat.reduceAdd, Nat.reduceMul, Nat.reduceLeDiff, Nat.le_refl, reduceIte, reduceCtorEq]; refine η _ ?_; clear η κ) | (refine r_nil (hK _ ?_); clear hK K) | refine q_seq ?_
  refine c_cond _ rfl (fun hq => ?_) (fun hq => ?_)
  · simp only [decide_eq_true_eq] at hq
    obtain ⟨x, hx⟩ : ∃ x, l[k]? = some x := ⟨_, List.getElem?_eq_getElem (by omega)⟩
    repeat' first | refine c_seq ?_ | refine c_block ?_ | refine c_reg' rfl fun K hK => ?_ | refine c_draw' rfl (by kernel_rfl) fun K hK => ?_ | ((first | refine r_opN fun κ η => ?_ | refine d_opN (by kernel_rfl) fun κ η => ?_); simp only [go_sem, Nat.reduceLT, Nat.reduceEqDiff, Nat.reduceAdd, Nat.reduceMul, Nat.reduceLeDiff, Nat.le_refl, reduceIte, reduceCtorEq, hx, List.cons.injEq]; (repeat refine ⟨by omega, ?_⟩); refine η _ ?_; clear η κ) | (refine r_nil (hK _ ?_); clear hK K) | refine q_seq ?_ | (refine d_nil (hK _ ?_); clear hK K) | refine c_skip ?_
    refine c_cond _ rfl (fun hq2 => ?_) (fun hq2 => ?_)
    · repeat' first | refine c_seq ?_ | refine c_reg' rfl fun K hK => ?_ | (refine r_opN fun κ η => ?_; simp only [go_sem, Nat.reduceLT, Nat.reduceEqDiff, Nat.reduceAdd, Nat.reduceMul, Nat.reduceLeDiff, Nat.le_refl, reduceIte, reduceCtorEq]; refine η _ ?_; clear η κ) | (refine r_nil (hK _ ?_); clear hK K) | refine q_seq ?_ | refine c_ret ?_ | refine q_seqR ?_ | refine q_blkR ?_ | refine q_lpR ?_ | (refine q_ret ?_; refine q_r1 ?_; simp only [go_sem, Nat.reduceLT, Nat.reduceEqDiff, Nat.reduceAdd, Nat.reduceMul, Nat.reduceLeDiff, Nat.le_refl, reduceIte, reduceCtorEq])
      rw [idxP, ixI_some hx hq2 hno]
    · repeat' first | refine c_reg' rfl fun K hK => ?_ | (refine r_opN fun κ η => ?_; simp only [go_sem, Nat.reduceLT, Nat.reduceEqDiff, Nat.reduceAdd, Nat.reduceMul, Nat.reduceLeDiff, Nat.le_refl, reduceIte, reduceCtorEq]; (repeat refine ⟨by omega, ?_⟩); refine η _ ?_; clear η κ) | (refine r_nil (hK _ ?_); clear hK K) | refine q_seq ?_ | refine q_blk ?_ | refine c_skip ?_ | refine q_lpN ?_
      refine ⟨l.length - (k + 1), by omega, k + 1, rfl, by omega, fun j y hj hy => ?_, _, _, nf_of rfl ⟨rfl, rfl, rfl, rfl, rfl, trivial⟩ ⟨rfl, trivial⟩⟩
      rcases Nat.lt_or_eq_of_le (Nat.lt_succ_iff.1 hj) with h | rfl
      · exact hno j y h hy
      · rw [hx] at hy; cases hy; exact hq2
  · simp only [decide_eq_false_iff_not] at hq
    repeat' first | refine c_seq ?_ | refine c_reg' rfl fun K hK => ?_ | (refine r_opN fun κ η => ?_; simp only [go_sem, Nat.reduceLT, Nat.reduceEqDiff, Nat.reduceAdd, Nat.reduceMul, Nat.reduceLeDiff, Nat.le_refl, reduceIte, reduceCtorEq]; refine η _ ?_; clear η κ) | (refine r_nil (hK _ ?_); clear hK K) | refine q_seq ?_ | refine c_exit ?_ | refine c_ret ?_ | refine q_seqE ?_ | refine q_blkHit ?_ | refine q_lpE ?_ | (refine q_ret ?_; refine q_r1 ?_; simp only [go_sem, Nat.reduceLT, Nat.reduceEqDiff, Nat.reduceAdd, Nat.reduceMul, Nat.reduceLeDiff, Nat.le_refl, reduceIte, reduceCtorEq])
    rw [idxP, ixI_none (fun j y hj hy => hno j y (by omega) hy)]
theorem indexB_ct (l : List Bool) (a : Bool) (h : l.length ≤ 140737488355328) : Ct Try.prog Hy 100 [bL l, .b a] [.i .i64 (ixI (fun x => a == x) l)] := by
  refine ct_of (cls := _root_.id) tt_ok follows_ Try.func100 rfl (by decide) (Nat.le_of_ble_eq_true rfl) ?_
  rw [show Try.f100.ntmps = 19 from rfl, s0_nf]
  simp only [List.zipIdx_cons, List.zipIdx_nil, List.map_cons, List.map_nil, Nat.reduceAdd, bL]
  repeat' first | refine c_seq ?_ | refine c_block ?_ | refine c_reg' rfl fun K hK => ?_ | (refine r_opN fun κ η => ?_; simp only [go_sem, Nat.reduceLT, Nat.reduceEqDiff, Nat.reduceAdd, Nat.reduceMul, Nat.reduceLeDiff, Nat.le_refl, reduceIte, reduceCtorEq]; refine η _ ?_; clear η κ) | (refine r_nil (hK _ ?_); clear hK K) | refine q_seq ?_
  refine c_loop (fun m s' => ∃ k : Nat, m = l.length - k ∧ k ≤ l.length ∧ (∀ (j : Nat) y, j < k → l[j]? = some y → (a == y) = false) ∧ ∃ F G0, s' = nf 19 F G0 [(0, .t (bL l)), (1, .t (.b a)), (6, .t (bL l)), (7, .t (.i .i64 l.length)), (8, .t (.i .i64 k))] []) (l.length) ?_ ?_
  · exact ⟨0, by omega, by omega, fun j x hj => absurd hj (Nat.not_lt_zero j), _, _, nf_of rfl ⟨rfl, rfl, rfl, rfl, rfl, trivial⟩ trivial⟩
  rintro m s' ⟨k, rfl, hk, hno, F, G0, rfl⟩
  simp only [bL]
  repeat' first | refine c_seq ?_ | refine c_reg' rfl fun K hK => ?_ | (refine r_opN fun κ η => ?_; simp only [go_sem, Nat.reduceLT, Nat.reduceEqDiff, Nat.reduceAdd, Nat.reduceMul, Nat.reduceLeDiff, Nat.le_refl, reduceIte, reduceCtorEq]; refine η _ ?_; clear η κ) | (refine r_nil (hK _ ?_); clear hK K) | refine q_seq ?_
  refine c_cond _ rfl (fun hq => ?_) (fun hq => ?_)
  · simp only [decide_eq_true_eq] at hq
    obtain ⟨x, hx⟩ : ∃ x, l[k]? = some x := ⟨_, List.getElem?_eq_getElem (by omega)⟩
    repeat' first | refine c_seq ?_ | refine c_block ?_ | refine c_reg' rfl fun K hK => ?_ | (refine r_opN fun κ η => ?_; simp only [go_sem, Nat.reduceLT, Nat.reduceEqDiff, Nat.reduceAdd, Nat.reduceMul, Nat.reduceLeDiff, Nat.le_refl, reduceIte, reduceCtorEq, hx]; (repeat refine ⟨by omega, ?_⟩); refine η _ ?_; clear η κ) | (refine r_nil (hK _ ?_); clear hK K) | refine q_seq ?_ | refine c_skip ?_
    refine c_cond _ rfl (fun hq2 => ?_) (fun hq2 => ?_)
    · repeat' first | refine c_seq ?_ | refine c_reg' rfl fun K hK => ?_ | (refine r_opN fun κ η => ?_; simp only [go_sem, Nat.reduceLT, Nat.reduceEqDiff, Nat.reduceAdd, Nat.reduceMul, Nat.reduceLeDiff, Nat.le_refl, reduceIte, reduceCtorEq]; refine η _ ?_; clear η κ) | (refine r_nil (hK _ ?_); clear hK K) | refine q_seq ?_ | refine c_ret ?_ | refine q_seqR ?_ | refine q_blkR ?_ | refine q_lpR ?_ | (refine q_ret ?_; refine q_r1 ?_; simp only [go_sem, Nat.reduceLT, Nat.reduceEqDiff, Nat.reduceAdd, Nat.reduceMul, Nat.reduceLeDiff, Nat.le_refl, reduceIte, reduceCtorEq])
      rw [ixI_some hx hq2 hno]
    · repeat' first | refine c_reg' rfl fun K hK => ?_ | (refine r_opN fun κ η => ?_; simp only [go_sem, Nat.reduceLT, Nat.reduceEqDiff, Nat.reduceAdd, Nat.reduceMul, Nat.reduceLeDiff, Nat.le_refl, reduceIte, reduceCtorEq]; (repeat refine ⟨by omega, ?_⟩); refine η _ ?_; clear η κ) | (refine r_nil (hK _ ?_); clear hK K) | refine q_seq ?_ | refine q_blk ?_ | refine c_skip ?_ | refine q_lpN ?_
      refine ⟨l.length - (k + 1), by omega, k + 1, rfl, by omega, fun j y hj hy => ?_, _, _, nf_of rfl ⟨rfl, rfl, rfl, rfl, rfl, trivial⟩ trivial⟩
      rcases Nat.lt_or_eq_of_le (Nat.lt_succ_iff.1 hj) with h | rfl
      · exact hno j y h hy
      · rw [hx] at hy; cases hy; exact hq2
  · simp only [decide_eq_false_iff_not] at hq
    repeat' first | refine c_seq ?_ | refine c_reg' rfl fun K hK => ?_ | (refine r_opN fun κ η => ?_; simp only [go_sem, Nat.reduceLT, Nat.reduceEqDiff, Nat.reduceAdd, Nat.reduceMul, Nat.reduceLeDiff, Nat.le_refl, reduceIte, reduceCtorEq]; refine η _ ?_; clear η κ) | (refine r_nil (hK _ ?_); clear hK K) | refine q_seq ?_ | refine c_exit ?_ | refine c_ret ?_ | refine q_seqE ?_ | refine q_blkHit ?_ | refine q_lpE ?_ | (refine q_ret ?_; refine q_r1 ?_; simp only [go_sem, Nat.reduceLT, Nat.reduceEqDiff, Nat.reduceAdd, Nat.reduceMul, Nat.reduceLeDiff, Nat.le_refl, reduceIte, reduceCtorEq])
    rw [ixI_none (fun j y hj hy => hno j y (by omega) hy)]
theorem containsB_ct (l : List Bool) (a : Bool) (h : l.length ≤ 140737488355328) : Ct Try.prog Hy 70 [bL l, .b a] [.b (l.any fun x => a == x)] := by
  refine ct_of (cls := _root_.id) tt_ok follows_ Try.func70 rfl (by decide) (Nat.le_of_ble_eq_true rfl) ?_
  rw [show Try.f70.ntmps = 9 from rfl, s0_nf]
  simp only [List.zipIdx_cons, List.zipIdx_nil, List.map_cons, List.map_nil, Nat.reduceAdd, bL]
  repeat' first | refine c_seq ?_ | refine c_reg' rfl fun K hK => ?_ | (refine r_opN fun κ η => ?_; simp only [go_sem, Nat.reduceLT, Nat.reduceEqDiff, Nat.reduceAdd, Nat.reduceMul, Nat.reduceLeDiff, Nat.le_refl, reduceIte, reduceCtorEq]; refine η _ ?_; clear η κ) | (refine r_nil (hK _ ?_); clear hK K) | refine q_seq ?_
  refine r_opN fun κ η => ?_; simp only [go_sem, Nat.reduceLT, Nat.reduceEqDiff, Nat.reduceAdd, Nat.reduceMul, Nat.reduceLeDiff, Nat.le_refl, reduceIte, reduceCtorEq, bL]; refine ⟨_, indexB_ct Hy l a h, ?_⟩; simp only [go_sem, Nat.reduceLT, Nat.reduceEqDiff, Nat.reduceAdd, Nat.reduceMul, Nat.reduceLeDiff, Nat.le_refl, reduceIte, reduceCtorEq, bL]; refine η _ ?_; clear η κ
  repeat' first | (refine r_opN fun κ η => ?_; simp only [go_sem, Nat.reduceLT, Nat.reduceEqDiff, Nat.reduceAdd, Nat.reduceMul, Nat.reduceLeDiff, Nat.le_refl, reduceIte, reduceCtorEq, ixI_ge]; refine η _ ?_; clear η κ) | (refine r_nil (hK _ ?_); clear hK K) | refine q_seq ?_ | refine c_ret ?_ | (refine q_ret ?_; refine q_r1 ?_; simp only [go_sem, Nat.reduceLT, Nat.reduceEqDiff, Nat.reduceAdd, Nat.reduceMul, Nat.reduceLeDiff, Nat.le_refl, reduceIte, reduceCtorEq, ixI_ge])
theorem equalP_ct (a b : List (Int × Int)) (hab : a.length ≤ 10000000 ∧ b.length ≤ 10000000) : Ct Try.prog Hy 73 [pL a, pL b] [.b (decide (a = b))] := by
  obtain ⟨h1, h2⟩ := hab
  refine ct_of (cls := _root_.id) tt_ok follows_ Try.func73 rfl (by decide) (Nat.le_of_ble_eq_true rfl) ?_
  rw [show Try.f73.ntmps = 26 from rfl, s0_nf]
  simp only [List.zipIdx_cons, List.zipIdx_nil, List.map_cons, List.map_nil, Nat.reduceAdd, pL]
  by_cases hl : ¬ (a.length : Int) = b.length
  · repeat' first | refine c_seq ?_ | refine c_reg' rfl fun K hK => ?_ | (refine r_opN fun κ η => ?_; simp only [go_sem, Nat.reduceLT, Nat.reduceEqDiff, Nat.reduceAdd, Nat.reduceMul, Nat.reduceLeDiff, Nat.le_refl, reduceIte, reduceCtorEq, hl]; refine η _ ?_; clear η κ) | (refine r_nil (hK _ ?_); clear hK K) | refine q_seq ?_
    refine c_cond _ rfl (fun hq => ?_) (fun hq => (by cases hq))
    repeat' first | refine c_seq ?_ | refine c_reg' rfl fun K hK => ?_ | (refine r_opN fun κ η => ?_; simp only [go_sem, Nat.reduceLT, Nat.reduceEqDiff, Nat.reduceAdd, Nat.reduceMul, Nat.reduceLeDiff, Nat.le_refl, reduceIte, reduceCtorEq]; refine η _ ?_; clear η κ) | (refine r_nil (hK _ ?_); clear hK K) | refine q_seq ?_ | refine c_ret ?_ | refine q_seqR ?_ | (refine q_ret ?_; refine q_r1 ?_; simp only [go_sem, Nat.reduceLT, Nat.reduceEqDiff, Nat.reduceAdd, Nat.reduceMul, Nat.reduceLeDiff, Nat.le_refl, reduceIte, reduceCtorEq])
    rw [decide_eq_false (fun e : a = b => hl (by rw [e]))]
  replace hl := Decidable.not_not.1 hl
  have hl2 : ((a.length : Int) = b.length) = True := eq_true hl
  repeat' first | refine c_seq ?_ | refine c_reg' rfl fun K hK => ?_ | (refine r_opN fun κ η => ?_; simp only [go_sem, Nat.reduceLT, Nat.reduceEqDiff, Nat.reduceAdd, Nat.reduceMul, Nat.reduceLeDiff, Nat.le_refl, reduceIte, reduceCtorEq, hl2]; refine η _ ?_; clear η κ) | (refine r_nil (hK _ ?_); clear hK K) | refine q_seq ?_
  refine c_cond _ rfl (fun hq => (by cases hq)) (fun hq => ?_)
  repeat' first | refine c_seq ?_ | refine c_block ?_ | refine c_reg' rfl fun K hK => ?_ | (refine r_opN fun κ η => ?_; simp only [go_sem, Nat.reduceLT, Nat.reduceEqDiff, Nat.reduceAdd, Nat.reduceMul, Nat.reduceLeDiff, Nat.le_refl, reduceIte, reduceCtorEq]; refine η _ ?_; clear η κ) | (refine r_nil (hK _ ?_); clear hK K) | refine q_seq ?_ | refine c_skip ?_
  refine c_loop (fun m s' => ∃ k : Nat, m = a.length - k ∧ k ≤ a.length ∧ (∀ (j : Nat), j < k → a[j]? = b[j]?) ∧ ∃ F G0, s' = nf 26 F G0 [(0, .t (pL a)), (1, .t (pL b)), (12, .t (.i .i64 a.length)), (13, .t (.i .i64 k))] []) (a.length) ?_ ?_
  · exact ⟨0, by omega, by omega, fun j hj => absurd hj (Nat.not_lt_zero j), _, _, nf_of rfl ⟨rfl, rfl, rfl, rfl, trivial⟩ trivial⟩
  rintro m s' ⟨k, rfl, hk, hall, F, G0, rfl⟩
  simp only [pL]
  repeat' first | refine c_seq ?_ | refine c_reg' rfl fun K hK => ?_ | (refine r_opN fun κ η => ?_; simp only [go_sem, Nat.reduceLT, Nat.reduceEqDiff, Nat.reduceAdd, Nat.reduceMul, Nat.reduceLeDiff, Nat.le_refl, reduceIte, reduceCtorEq]; refine η _ ?_; clear η κ) | (refine r_nil (hK _ ?_); clear hK K) | refine q_seq ?_
  refine c_cond _ rfl (fun hq => ?_) (fun hq => ?_)
  · simp only [decide_eq_true_eq] at hq
    obtain ⟨x, hx⟩ : ∃ x, a[k]? = some x := ⟨_, List.getElem?_eq_getElem (by omega)⟩
    obtain ⟨y, hy⟩ : ∃ y, b[k]? = some y := ⟨_, List.getElem?_eq_getElem (by omega)⟩
    repeat' first | refine c_seq ?_ | refine c_block ?_ | refine c_reg' rfl fun K hK => ?_ | refine c_draw' rfl (by kernel_rfl) fun K hK => ?_ | ((first | refine r_opN fun κ η => ?_ | refine d_opN (by kernel_rfl) fun κ η => ?_); simp only [go_sem, Nat.reduceLT, Nat.reduceEqDiff, Nat.reduceAdd, Nat.reduceMul, Nat.reduceLeDiff, Nat.le_refl, reduceIte, reduceCtorEq, hx, hy, List.cons.injEq]; (repeat refine ⟨by omega, ?_⟩); refine η _ ?_; clear η κ) | (refine r_nil (hK _ ?_); clear hK K) | refine q_seq ?_ | (refine d_nil (hK _ ?_); clear hK K) | refine c_skip ?_
    refine c_cond _ rfl (fun hq2 => ?_) (fun hq2 => ?_)
    · simp only [Bool.not_eq_true', decide_eq_false_iff_not] at hq2
      repeat' first | refine c_seq ?_ | refine c_reg' rfl fun K hK => ?_ | (refine r_opN fun κ η => ?_; simp only [go_sem, Nat.reduceLT, Nat.reduceEqDiff, Nat.reduceAdd, Nat.reduceMul, Nat.reduceLeDiff, Nat.le_refl, reduceIte, reduceCtorEq]; refine η _ ?_; clear η κ) | (refine r_nil (hK _ ?_); clear hK K) | refine q_seq ?_ | refine c_ret ?_ | refine q_seqR ?_ | refine q_blkR ?_ | refine q_lpR ?_ | (refine q_ret ?_; refine q_r1 ?_; simp only [go_sem, Nat.reduceLT, Nat.reduceEqDiff, Nat.reduceAdd, Nat.reduceMul, Nat.reduceLeDiff, Nat.le_refl, reduceIte, reduceCtorEq])
      rw [decide_eq_false (fun e : a = b => hq2 (by
        rw [e, hy] at hx
        cases hx
        exact ⟨rfl, rfl⟩))]
    · simp only [Bool.not_eq_false', decide_eq_true_eq] at hq2
      repeat' first | refine c_reg' rfl fun K hK => ?_ | (refine r_opN fun κ η => ?_; simp only [go_sem, Nat.reduceLT, Nat.reduceEqDiff, Nat.reduceAdd, Nat.reduceMul, Nat.reduceLeDiff, Nat.le_refl, reduceIte, reduceCtorEq]; (repeat refine ⟨by omega, ?_⟩); refine η _ ?_; clear η κ) | (refine r_nil (hK _ ?_); clear hK K) | refine q_seq ?_ | refine q_blk ?_ | refine c_skip ?_ | refine q_lpN ?_
      refine ⟨a.length - (k + 1), by omega, k + 1, rfl, by omega, fun j hj => ?_, _, _, nf_of rfl ⟨rfl, rfl, rfl, rfl, trivial⟩ trivial⟩
      rcases Nat.lt_or_eq_of_le (Nat.lt_succ_iff.1 hj) with h | rfl
      · exact hall j h
      · rw [hx, hy, Prod.ext hq2.1 hq2.2]
  · simp only [decide_eq_false_iff_not] at hq
    repeat' first | refine c_seq ?_ | refine c_reg' rfl fun K hK => ?_ | (refine r_opN fun κ η => ?_; simp only [go_sem, Nat.reduceLT, Nat.reduceEqDiff, Nat.reduceAdd, Nat.reduceMul, Nat.reduceLeDiff, Nat.le_refl, reduceIte, reduceCtorEq]; refine η _ ?_; clear η κ) | (refine r_nil (hK _ ?_); clear hK K) | refine q_seq ?_ | refine c_exit ?_ | refine c_ret ?_ | refine q_seqE ?_ | refine q_blkHit ?_ | refine q_lpE ?_ | (refine q_ret ?_; refine q_r1 ?_; simp only [go_sem, Nat.reduceLT, Nat.reduceEqDiff, Nat.reduceAdd, Nat.reduceMul, Nat.reduceLeDiff, Nat.le_refl, reduceIte, reduceCtorEq])
    rw [decide_eq_true (List.ext_getElem? fun j => ?_)]
    by_cases hj : j < a.length
    · exact hall j (by omega)
    · rw [List.getElem?_eq_none (by omega), List.getElem?_eq_none (by omega)]
/-- two literals, the greater one first, that need no and -/
def plainP (a b : Int) : Option Int := if b = 0 ∨ (a / 2 = b / 2 ∧ a ≠ b) then some 0 else if b = 1 ∨ a = b then some a else none
theorem plain_ct (a b : Int) (h : 0 ≤ a ∧ 0 ≤ b ∧ a ≤ 1000000 ∧ b ≤ 1000000) : Ct Try.prog Hy 77 [.i .i64 a, .i .i64 b] [.i .i64 ((plainP a b).getD 0), .b (plainP a b).isSome] := by
  obtain ⟨h1, h2, h3, h4⟩ := h
  have q1 := Int.tdiv_eq_ediv_of_nonneg h1 (b := 2)
  have q2 := Int.tdiv_eq_ediv_of_nonneg h2 (b := 2)
  refine ct_of (cls := _root_.id) tt_ok follows_ Try.func77 rfl (by decide) (Nat.le_of_ble_eq_true rfl) ?_
  rw [show Try.f77.ntmps = 26 from rfl, s0_nf]
  simp only [List.zipIdx_cons, List.zipIdx_nil, List.map_cons, List.map_nil, Nat.reduceAdd]
  by_cases c1 : b = 0
  · subst c1
    repeat' first | refine c_seq ?_ | refine c_block ?_ | refine c_reg' rfl fun K hK => ?_ | (refine r_opN fun κ η => ?_; simp only [go_sem, Nat.reduceLT, Nat.reduceEqDiff, Nat.reduceAdd, Nat.reduceMul, Nat.reduceLeDiff, Nat.le_refl, reduceIte, reduceCtorEq]; refine η _ ?_; clear η κ) | (refine r_nil (hK _ ?_); clear hK K) | refine q_seq ?_
    refine c_cond _ rfl (fun hq => ?_) (fun hq => (by cases hq))
    repeat' first | refine q_seq ?_ | refine c_skip ?_
    refine c_cond _ rfl (fun hq => ?_) (fun hq => (by cases hq))
    repeat' first | refine c_seq ?_ | refine c_reg' rfl fun K hK => ?_ | (refine r_opN fun κ η => ?_; simp only [go_sem, Nat.reduceLT, Nat.reduceEqDiff, Nat.reduceAdd, Nat.reduceMul, Nat.reduceLeDiff, Nat.le_refl, reduceIte, reduceCtorEq, plainP, true_or, if_true, Option.getD_some, Option.isSome_some]; refine η _ ?_; clear η κ) | (refine r_nil (hK _ ?_); clear hK K) | refine q_seq ?_ | refine c_ret ?_ | refine q_seqR ?_ | refine q_blkR ?_ | (refine q_ret ?_; refine q_r1 ?_; simp only [go_sem, Nat.reduceLT, Nat.reduceEqDiff, Nat.reduceAdd, Nat.reduceMul, Nat.reduceLeDiff, Nat.le_refl, reduceIte, reduceCtorEq, plainP, true_or, if_true, Option.getD_some, Option.isSome_some])
  by_cases c2 : a / 2 = b / 2
  · by_cases c3 : a = b
    · subst c3
      repeat' first | refine c_seq ?_ | refine c_block ?_ | refine c_reg' rfl fun K hK => ?_ | (refine r_opN fun κ η => ?_; simp only [go_sem, Nat.reduceLT, Nat.reduceEqDiff, Nat.reduceAdd, Nat.reduceMul, Nat.reduceLeDiff, Nat.le_refl, reduceIte, reduceCtorEq, c1]; refine η _ ?_; clear η κ) | (refine r_nil (hK _ ?_); clear hK K) | refine q_seq ?_
      refine c_cond _ rfl (fun hq => (by cases hq)) (fun hq => ?_)
      repeat' first | refine c_reg' rfl fun K hK => ?_ | ((first | refine r_opN fun κ η => ?_ | refine r_opG rfl fun κ η => ?_); simp only [go_sem, Nat.reduceLT, Nat.reduceEqDiff, Nat.reduceAdd, Nat.reduceMul, Nat.reduceLeDiff, Nat.le_refl, reduceIte, reduceCtorEq, q1]; (repeat refine ⟨by omega, ?_⟩); refine η _ ?_; clear η κ) | (refine r_nil (hK _ ?_); clear hK K) | refine q_seq ?_
      refine c_cond _ rfl (fun hq => (by cases hq)) (fun hq => ?_)
      have hp : plainP a a = some a := by unfold plainP; rw [if_neg (by omega), if_pos (.inr rfl)]
      rw [hp]
      by_cases c4 : a = 1
      · subst c4
        repeat' first | refine c_seq ?_ | refine c_reg' rfl fun K hK => ?_ | (refine r_opN fun κ η => ?_; simp only [go_sem, Nat.reduceLT, Nat.reduceEqDiff, Nat.reduceAdd, Nat.reduceMul, Nat.reduceLeDiff, Nat.le_refl, reduceIte, reduceCtorEq]; refine η _ ?_; clear η κ) | (refine r_nil (hK _ ?_); clear hK K) | refine q_seq ?_
        refine c_cond _ rfl (fun hq => ?_) (fun hq => (by cases hq))
        repeat' first | refine q_seq ?_ | refine c_skip ?_
        refine c_cond _ rfl (fun hq => ?_) (fun hq => (by cases hq))
        repeat' first | refine c_seq ?_ | refine c_reg' rfl fun K hK => ?_ | (refine r_opN fun κ η => ?_; simp only [go_sem, Nat.reduceLT, Nat.reduceEqDiff, Nat.reduceAdd, Nat.reduceMul, Nat.reduceLeDiff, Nat.le_refl, reduceIte, reduceCtorEq, Option.getD_some, Option.isSome_some]; refine η _ ?_; clear η κ) | (refine r_nil (hK _ ?_); clear hK K) | refine q_seq ?_ | refine c_ret ?_ | refine q_seqR ?_ | refine q_blkR ?_ | (refine q_ret ?_; refine q_r1 ?_; simp only [go_sem, Nat.reduceLT, Nat.reduceEqDiff, Nat.reduceAdd, Nat.reduceMul, Nat.reduceLeDiff, Nat.le_refl, reduceIte, reduceCtorEq, Option.getD_some, Option.isSome_some])
      · repeat' first | refine c_seq ?_ | refine c_reg' rfl fun K hK => ?_ | (refine r_opN fun κ η => ?_; simp only [go_sem, Nat.reduceLT, Nat.reduceEqDiff, Nat.reduceAdd, Nat.reduceMul, Nat.reduceLeDiff, Nat.le_refl, reduceIte, reduceCtorEq, c4]; refine η _ ?_; clear η κ) | (refine r_nil (hK _ ?_); clear hK K) | refine q_seq ?_
        refine c_cond _ rfl (fun hq => (by cases hq)) (fun hq => ?_)
        repeat' first | refine c_reg' rfl fun K hK => ?_ | (refine r_opN fun κ η => ?_; simp only [go_sem, Nat.reduceLT, Nat.reduceEqDiff, Nat.reduceAdd, Nat.reduceMul, Nat.reduceLeDiff, Nat.le_refl, reduceIte, reduceCtorEq]; refine η _ ?_; clear η κ) | (refine r_nil (hK _ ?_); clear hK K) | refine q_seq ?_
        refine c_cond _ rfl (fun hq => ?_) (fun hq => (by cases hq))
        repeat' first | refine c_seq ?_ | refine c_reg' rfl fun K hK => ?_ | (refine r_opN fun κ η => ?_; simp only [go_sem, Nat.reduceLT, Nat.reduceEqDiff, Nat.reduceAdd, Nat.reduceMul, Nat.reduceLeDiff, Nat.le_refl, reduceIte, reduceCtorEq, Option.getD_some, Option.isSome_some]; refine η _ ?_; clear η κ) | (refine r_nil (hK _ ?_); clear hK K) | refine q_seq ?_ | refine c_ret ?_ | refine q_seqR ?_ | refine q_blkR ?_ | (refine q_ret ?_; refine q_r1 ?_; simp only [go_sem, Nat.reduceLT, Nat.reduceEqDiff, Nat.reduceAdd, Nat.reduceMul, Nat.reduceLeDiff, Nat.le_refl, reduceIte, reduceCtorEq, Option.getD_some, Option.isSome_some])
    · have hp : plainP a b = some 0 := by unfold plainP; rw [if_pos (.inr ⟨c2, c3⟩)]
      rw [hp]
      repeat' first | refine c_seq ?_ | refine c_block ?_ | refine c_reg' rfl fun K hK => ?_ | (refine r_opN fun κ η => ?_; simp only [go_sem, Nat.reduceLT, Nat.reduceEqDiff, Nat.reduceAdd, Nat.reduceMul, Nat.reduceLeDiff, Nat.le_refl, reduceIte, reduceCtorEq, c1]; refine η _ ?_; clear η κ) | (refine r_nil (hK _ ?_); clear hK K) | refine q_seq ?_
      refine c_cond _ rfl (fun hq => (by cases hq)) (fun hq => ?_)
      repeat' first | refine c_reg' rfl fun K hK => ?_ | ((first | refine r_opN fun κ η => ?_ | refine r_opG rfl fun κ η => ?_); simp only [go_sem, Nat.reduceLT, Nat.reduceEqDiff, Nat.reduceAdd, Nat.reduceMul, Nat.reduceLeDiff, Nat.le_refl, reduceIte, reduceCtorEq, q1, q2, c2, c3]; (repeat refine ⟨by omega, ?_⟩); refine η _ ?_; clear η κ) | (refine r_nil (hK _ ?_); clear hK K) | refine q_seq ?_
      refine c_cond _ rfl (fun hq => ?_) (fun hq => (by cases hq))
      repeat' first | refine c_seq ?_ | refine c_reg' rfl fun K hK => ?_ | (refine r_opN fun κ η => ?_; simp only [go_sem, Nat.reduceLT, Nat.reduceEqDiff, Nat.reduceAdd, Nat.reduceMul, Nat.reduceLeDiff, Nat.le_refl, reduceIte, reduceCtorEq, Option.getD_some, Option.isSome_some]; refine η _ ?_; clear η κ) | (refine r_nil (hK _ ?_); clear hK K) | refine q_seq ?_ | refine c_ret ?_ | refine q_seqR ?_ | refine q_blkR ?_ | (refine q_ret ?_; refine q_r1 ?_; simp only [go_sem, Nat.reduceLT, Nat.reduceEqDiff, Nat.reduceAdd, Nat.reduceMul, Nat.reduceLeDiff, Nat.le_refl, reduceIte, reduceCtorEq, Option.getD_some, Option.isSome_some])
  · have c3 : ¬ a = b := fun e => c2 (by rw [e])
    repeat' first | refine c_seq ?_ | refine c_block ?_ | refine c_reg' rfl fun K hK => ?_ | (refine r_opN fun κ η => ?_; simp only [go_sem, Nat.reduceLT, Nat.reduceEqDiff, Nat.reduceAdd, Nat.reduceMul, Nat.reduceLeDiff, Nat.le_refl, reduceIte, reduceCtorEq, c1]; refine η _ ?_; clear η κ) | (refine r_nil (hK _ ?_); clear hK K) | refine q_seq ?_
    refine c_cond _ rfl (fun hq => (by cases hq)) (fun hq => ?_)
    repeat' first | refine c_reg' rfl fun K hK => ?_ | ((first | refine r_opN fun κ η => ?_ | refine r_opG rfl fun κ η => ?_); simp only [go_sem, Nat.reduceLT, Nat.reduceEqDiff, Nat.reduceAdd, Nat.reduceMul, Nat.reduceLeDiff, Nat.le_refl, reduceIte, reduceCtorEq, q1, q2, c2]; (repeat refine ⟨by omega, ?_⟩); refine η _ ?_; clear η κ) | (refine r_nil (hK _ ?_); clear hK K) | refine q_seq ?_
    refine c_cond _ rfl (fun hq => (by cases hq)) (fun hq => ?_)
    by_cases c4 : b = 1
    · have hp : plainP a b = some a := by unfold plainP; rw [if_neg (by omega), if_pos (.inl c4)]
      rw [hp]
      subst c4
      repeat' first | refine c_seq ?_ | refine c_reg' rfl fun K hK => ?_ | (refine r_opN fun κ η => ?_; simp only [go_sem, Nat.reduceLT, Nat.reduceEqDiff, Nat.reduceAdd, Nat.reduceMul, Nat.reduceLeDiff, Nat.le_refl, reduceIte, reduceCtorEq]; refine η _ ?_; clear η κ) | (refine r_nil (hK _ ?_); clear hK K) | refine q_seq ?_
      refine c_cond _ rfl (fun hq => ?_) (fun hq => (by cases hq))
      repeat' first | refine q_seq ?_ | refine c_skip ?_
      refine c_cond _ rfl (fun hq => ?_) (fun hq => (by cases hq))
      repeat' first | refine c_seq ?_ | refine c_reg' rfl fun K hK => ?_ | (refine r_opN fun κ η => ?_; simp only [go_sem, Nat.reduceLT, Nat.reduceEqDiff, Nat.reduceAdd, Nat.reduceMul, Nat.reduceLeDiff, Nat.le_refl, reduceIte, reduceCtorEq, Option.getD_some, Option.isSome_some]; refine η _ ?_; clear η κ) | (refine r_nil (hK _ ?_); clear hK K) | refine q_seq ?_ | refine c_ret ?_ | refine q_seqR ?_ | refine q_blkR ?_ | (refine q_ret ?_; refine q_r1 ?_; simp only [go_sem, Nat.reduceLT, Nat.reduceEqDiff, Nat.reduceAdd, Nat.reduceMul, Nat.reduceLeDiff, Nat.le_refl, reduceIte, reduceCtorEq, Option.getD_some, Option.isSome_some])
    · have hp : plainP a b = none := by unfold plainP; rw [if_neg (by omega), if_neg (by omega)]
      rw [hp]
      repeat' first | refine c_seq ?_ | refine c_reg' rfl fun K hK => ?_ | (refine r_opN fun κ η => ?_; simp only [go_sem, Nat.reduceLT, Nat.reduceEqDiff, Nat.reduceAdd, Nat.reduceMul, Nat.reduceLeDiff, Nat.le_refl, reduceIte, reduceCtorEq, c4]; refine η _ ?_; clear η κ) | (refine r_nil (hK _ ?_); clear hK K) | refine q_seq ?_
      refine c_cond _ rfl (fun hq => (by cases hq)) (fun hq => ?_)
      repeat' first | refine c_reg' rfl fun K hK => ?_ | (refine r_opN fun κ η => ?_; simp only [go_sem, Nat.reduceLT, Nat.reduceEqDiff, Nat.reduceAdd, Nat.reduceMul, Nat.reduceLeDiff, Nat.le_refl, reduceIte, reduceCtorEq, c3]; refine η _ ?_; clear η κ) | (refine r_nil (hK _ ?_); clear hK K) | refine q_seq ?_
      refine c_cond _ rfl (fun hq => (by cases hq)) (fun hq => ?_)
      repeat' first | refine c_seq ?_ | refine c_reg' rfl fun K hK => ?_ | (refine r_opN fun κ η => ?_; simp only [go_sem, Nat.reduceLT, Nat.reduceEqDiff, Nat.reduceAdd, Nat.reduceMul, Nat.reduceLeDiff, Nat.le_refl, reduceIte, reduceCtorEq, Option.getD_none, Option.isSome_none]; refine η _ ?_; clear η κ) | (refine r_nil (hK _ ?_); clear hK K) | refine q_seq ?_ | refine q_blk ?_ | refine c_skip ?_ | refine c_ret ?_ | (refine q_ret ?_; refine q_r1 ?_; simp only [go_sem, Nat.reduceLT, Nat.reduceEqDiff, Nat.reduceAdd, Nat.reduceMul, Nat.reduceLeDiff, Nat.le_refl, reduceIte, reduceCtorEq, Option.getD_none, Option.isSome_none])
end Go.Proofs.Ytpbfkpdfodmcaaa
