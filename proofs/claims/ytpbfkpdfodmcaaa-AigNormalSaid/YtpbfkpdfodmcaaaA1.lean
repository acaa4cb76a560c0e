import Derived.Test.YtpbfkpdfodmcaaaTys
namespace Go.Proofs.Ytpbfkpdfodmcaaa
open Go.RowKit
set_option maxRecDepth 100000
set_option linter.unusedSimpArgs false
/-- a graph's data -/
structure G where
  ins : Int
  next : List Int
  init : List Int
  ands : List (Int × Int)
  outs : List Int
def iL (l : List Int) : T := .sl (l.map fun x => [.i .i64 x])
def bL (l : List Bool) : T := .sl (l.map fun x => [.b x])
def pL (l : List (Int × Int)) : T := .sl (l.map fun x => [.i .i64 x.1, .i .i64 x.2])
def G.t (g : G) : T := .ag [.i .i64 g.ins, iL g.next, iL g.init, pL g.ands, iL g.outs]
variable (Hy : World → Prop)
attribute [local irreducible] runM runD cwp seqQ blkQ lpQ retQ
theorem firstAnd_ct (g : G) (h : 0 ≤ g.ins ∧ g.ins ≤ 140737488355328 ∧ g.next.length ≤ 140737488355328) : Ct Try.prog Hy 67 [g.t] [.i .i64 (1 + g.ins + g.next.length)] := by
  obtain ⟨h1, h2, h3⟩ := h
  refine ct_of (cls := id) tt_ok follows_ Try.func67 rfl (by decide) (Nat.le_of_ble_eq_true rfl) ?_
  rw [show Try.f67.ntmps = 10 from rfl, s0_nf]
  simp only [List.zipIdx_cons, List.zipIdx_nil, List.map_cons, List.map_nil, Nat.reduceAdd, G.t, iL, pL]
  repeat' first | refine c_seq ?_ | refine c_reg' rfl fun K hK => ?_ | (refine r_opN fun κ η => ?_; simp only [go_sem, Nat.reduceLT, Nat.reduceEqDiff, Nat.reduceAdd, Nat.reduceMul, Nat.reduceLeDiff, Nat.le_refl, reduceIte, reduceCtorEq]; (repeat refine ⟨by omega, ?_⟩); refine η _ ?_; clear η κ) | (refine r_nil (hK _ ?_); clear hK K) | refine q_seq ?_ | refine c_ret ?_ | (refine q_ret ?_; refine q_r1 ?_; simp only [go_sem, Nat.reduceLT, Nat.reduceEqDiff, Nat.reduceAdd, Nat.reduceMul, Nat.reduceLeDiff, Nat.le_refl, reduceIte, reduceCtorEq])
theorem greatest_ct (g : G) (h : 0 ≤ g.ins ∧ g.ins ≤ 140737488355328 ∧ g.next.length ≤ 140737488355328 ∧ g.ands.length ≤ 140737488355328) : Ct Try.prog Hy 65 [g.t] [.i .i64 (g.ins + g.next.length + g.ands.length)] := by
  obtain ⟨h1, h2, h3, h4⟩ := h
  refine ct_of (cls := id) tt_ok follows_ Try.func65 rfl (by decide) (Nat.le_of_ble_eq_true rfl) ?_
  rw [show Try.f65.ntmps = 13 from rfl, s0_nf]
  simp only [List.zipIdx_cons, List.zipIdx_nil, List.map_cons, List.map_nil, Nat.reduceAdd, G.t, iL, pL]
  repeat' first | refine c_seq ?_ | refine c_reg' rfl fun K hK => ?_ | (refine r_opN fun κ η => ?_; simp only [go_sem, Nat.reduceLT, Nat.reduceEqDiff, Nat.reduceAdd, Nat.reduceMul, Nat.reduceLeDiff, Nat.le_refl, reduceIte, reduceCtorEq]; (repeat refine ⟨by omega, ?_⟩); refine η _ ?_; clear η κ) | (refine r_nil (hK _ ?_); clear hK K) | refine q_seq ?_ | refine c_ret ?_ | (refine q_ret ?_; refine q_r1 ?_; simp only [go_sem, Nat.reduceLT, Nat.reduceEqDiff, Nat.reduceAdd, Nat.reduceMul, Nat.reduceLeDiff, Nat.le_refl, reduceIte, reduceCtorEq])
theorem isLiteral_ct (a n : Int) (h : -9 ≤ n ∧ n ≤ 1000000) : Ct Try.prog Hy 66 [.i .i64 a, .i .i64 n] [.b (decide (0 ≤ a ∧ a ≤ 2 * n + 1))] := by
  refine ct_of (cls := id) tt_ok follows_ Try.func66 rfl (by decide) (Nat.le_of_ble_eq_true rfl) ?_
  rw [show Try.f66.ntmps = 14 from rfl, s0_nf]
  simp only [List.zipIdx_cons, List.zipIdx_nil, List.map_cons, List.map_nil, Nat.reduceAdd]
  by_cases h0 : 0 ≤ a
  · repeat' first | refine c_seq ?_ | refine c_reg' rfl fun K hK => ?_ | ((first | refine r_opN fun κ η => ?_ | refine r_opG rfl fun κ η => ?_); simp only [go_sem, Nat.reduceLT, Nat.reduceEqDiff, Nat.reduceAdd, Nat.reduceMul, Nat.reduceLeDiff, Nat.le_refl, reduceIte, reduceCtorEq, h0, true_and]; (repeat refine ⟨by omega, ?_⟩); refine η _ ?_; clear η κ) | (refine r_nil (hK _ ?_); clear hK K) | refine q_seq ?_ | refine c_ret ?_ | (refine q_ret ?_; refine q_r1 ?_; simp only [go_sem, Nat.reduceLT, Nat.reduceEqDiff, Nat.reduceAdd, Nat.reduceMul, Nat.reduceLeDiff, Nat.le_refl, reduceIte, reduceCtorEq, h0, true_and])
  · repeat' first | refine c_seq ?_ | refine c_reg' rfl fun K hK => ?_ | ((first | refine r_opN fun κ η => ?_ | refine r_opG rfl fun κ η => ?_); simp only [go_sem, Nat.reduceLT, Nat.reduceEqDiff, Nat.reduceAdd, Nat.reduceMul, Nat.reduceLeDiff, Nat.le_refl, reduceIte, reduceCtorEq, h0, false_and]; refine η _ ?_; clear η κ) | (refine r_nil (hK _ ?_); clear hK K) | refine q_seq ?_ | refine c_ret ?_ | (refine q_ret ?_; refine q_r1 ?_; simp only [go_sem, Nat.reduceLT, Nat.reduceEqDiff, Nat.reduceAdd, Nat.reduceMul, Nat.reduceLeDiff, Nat.le_refl, reduceIte, reduceCtorEq, h0, false_and])
theorem value_ct (l : List Bool) (a : Int) (h : 0 ≤ a ∧ a / 2 < l.length) (hm : a ≤ 9223372036854775807) : Ct Try.prog Hy 75 [bL l, .i .i64 a] [.b (l.getD (a / 2).toNat false != decide (a % 2 = 1))] := by
  obtain ⟨h1, h2⟩ := h
  refine ct_of (cls := id) tt_ok follows_ Try.func75 rfl (by decide) (Nat.le_of_ble_eq_true rfl) ?_
  rw [show Try.f75.ntmps = 14 from rfl, s0_nf]
  simp only [List.zipIdx_cons, List.zipIdx_nil, List.map_cons, List.map_nil, Nat.reduceAdd, bL]
  obtain ⟨x, hx⟩ : ∃ x, l[(a / 2).toNat]? = some x := ⟨_, List.getElem?_eq_getElem (by omega)⟩
  repeat' first | refine c_seq ?_ | refine c_reg' rfl fun K hK => ?_ | (refine r_opN fun κ η => ?_; simp only [go_sem, Nat.reduceLT, Nat.reduceEqDiff, Nat.reduceAdd, Nat.reduceMul, Nat.reduceLeDiff, Nat.le_refl, reduceIte, reduceCtorEq, hx, Int.tdiv_eq_ediv_of_nonneg h1, Int.tmod_eq_emod_of_nonneg h1]; (repeat refine ⟨by omega, ?_⟩); refine η _ ?_; clear η κ) | (refine r_nil (hK _ ?_); clear hK K) | refine q_seq ?_ | refine c_ret ?_ | (refine q_ret ?_; refine q_r1 ?_; simp only [go_sem, Nat.reduceLT, Nat.reduceEqDiff, Nat.reduceAdd, Nat.reduceMul, Nat.reduceLeDiff, Nat.le_refl, reduceIte, reduceCtorEq, hx, Int.tdiv_eq_ediv_of_nonneg h1, Int.tmod_eq_emod_of_nonneg h1])
  rw [List.getD_eq_getElem?_getD, hx]
  rfl
end Go.Proofs.Ytpbfkpdfodmcaaa
