import Derived.Test.YtpbfkpdfodmcaaaP1
import Derived.Test.YtpbfkpdfodmcaaaS1
import Derived.Test.YtpbfkpdfodmcaaaA7
import Derived.Test.YtpbfkpdfodmcaaaF1
namespace Go.Proofs.Ytpbfkpdfodmcaaa
open Go.RowKit
set_option maxRecDepth 100000
set_option linter.unusedSimpArgs false
variable (Hy : World → Prop)
attribute [local irreducible] runM runD cwp seqQ blkQ lpQ retQ
def smallG (g : G) (begin : List Int) (k : Int) : Bool := decide (fewG g = true ∧ (begin.length : Int) ≤ 60 ∧ (g.ins ≤ 30 ∨ 4000 < g.ins) ∧ (k ≤ 6 ∨ 40 < k))
theorem small_ct (g : G) (begin : List Int) (k : Int) : Ct Try.prog Hy 43 [g.t, iL begin, .i .i64 k] [.b (smallG g begin k)] := by
  have hf := few_ct Hy g
  refine ct_of (cls := _root_.id) tt_ok follows_ Try.func43 rfl (by decide) (Nat.le_of_ble_eq_true rfl) ?_
  rw [show Try.f43.ntmps = 34 from rfl, s0_nf]
  simp only [List.zipIdx_cons, List.zipIdx_nil, List.map_cons, List.map_nil, Nat.reduceAdd, G.t, iL, pL]
  repeat' first | refine c_seq ?_ | refine c_reg' rfl fun K hK => ?_ | (refine r_opN fun κ η => ?_; simp only [go_sem, Nat.reduceLT, Nat.reduceEqDiff, Nat.reduceAdd, Nat.reduceMul, Nat.reduceLeDiff, Nat.le_refl, reduceIte, reduceCtorEq]; refine η _ ?_; clear η κ) | (refine r_nil (hK _ ?_); clear hK K) | refine q_seq ?_
  cases h1 : fewG g with
  | false =>
    rw [h1] at hf
    refine r_opN fun κ η => ?_; simp only [go_sem, Nat.reduceLT, Nat.reduceEqDiff, Nat.reduceAdd, Nat.reduceMul, Nat.reduceLeDiff, Nat.le_refl, reduceIte, reduceCtorEq, G.t, iL, pL]; refine ⟨_, hf, ?_⟩; simp only [go_sem, Nat.reduceLT, Nat.reduceEqDiff, Nat.reduceAdd, Nat.reduceMul, Nat.reduceLeDiff, Nat.le_refl, reduceIte, reduceCtorEq, G.t, iL, pL]; refine η _ ?_; clear η κ
    repeat' first | refine c_seq ?_ | refine c_reg' rfl fun K hK => ?_ | ((first | refine r_opN fun κ η => ?_ | refine r_opG rfl fun κ η => ?_); simp only [go_sem, Nat.reduceLT, Nat.reduceEqDiff, Nat.reduceAdd, Nat.reduceMul, Nat.reduceLeDiff, Nat.le_refl, reduceIte, reduceCtorEq]; refine η _ ?_; clear η κ) | (refine r_nil (hK _ ?_); clear hK K) | refine q_seq ?_ | refine c_ret ?_ | (refine q_ret ?_; refine q_r1 ?_; simp only [go_sem, Nat.reduceLT, Nat.reduceEqDiff, Nat.reduceAdd, Nat.reduceMul, Nat.reduceLeDiff, Nat.le_refl, reduceIte, reduceCtorEq])
    rw [show smallG g begin k = false from decide_eq_false (fun e => by rw [h1] at e; exact absurd e.1 (by decide))]
  | true =>
  rw [h1] at hf
  by_cases h2 : ¬ (begin.length : Int) ≤ 60
  · refine r_opN fun κ η => ?_; simp only [go_sem, Nat.reduceLT, Nat.reduceEqDiff, Nat.reduceAdd, Nat.reduceMul, Nat.reduceLeDiff, Nat.le_refl, reduceIte, reduceCtorEq, G.t, iL, pL]; refine ⟨_, hf, ?_⟩; simp only [go_sem, Nat.reduceLT, Nat.reduceEqDiff, Nat.reduceAdd, Nat.reduceMul, Nat.reduceLeDiff, Nat.le_refl, reduceIte, reduceCtorEq, G.t, iL, pL]; refine η _ ?_; clear η κ
    repeat' first | refine c_seq ?_ | refine c_reg' rfl fun K hK => ?_ | ((first | refine r_opN fun κ η => ?_ | refine r_opG rfl fun κ η => ?_); simp only [go_sem, Nat.reduceLT, Nat.reduceEqDiff, Nat.reduceAdd, Nat.reduceMul, Nat.reduceLeDiff, Nat.le_refl, reduceIte, reduceCtorEq, h2]; refine η _ ?_; clear η κ) | (refine r_nil (hK _ ?_); clear hK K) | refine q_seq ?_ | refine c_ret ?_ | (refine q_ret ?_; refine q_r1 ?_; simp only [go_sem, Nat.reduceLT, Nat.reduceEqDiff, Nat.reduceAdd, Nat.reduceMul, Nat.reduceLeDiff, Nat.le_refl, reduceIte, reduceCtorEq, h2])
    rw [show smallG g begin k = false from decide_eq_false (fun e => h2 e.2.1)]
  replace h2 := Decidable.not_not.1 h2
  have fin : smallG g begin k = (decide (g.ins ≤ 30 ∨ 4000 < g.ins) && decide (k ≤ 6 ∨ 40 < k)) := by
    unfold smallG
    rw [h1, ← Bool.decide_and]
    exact decide_eq_decide.2 ⟨fun e => e.2.2, fun e => ⟨rfl, h2, e⟩⟩
  by_cases h3 : g.ins ≤ 30
  · by_cases h4 : k ≤ 6
    · refine r_opN fun κ η => ?_; simp only [go_sem, Nat.reduceLT, Nat.reduceEqDiff, Nat.reduceAdd, Nat.reduceMul, Nat.reduceLeDiff, Nat.le_refl, reduceIte, reduceCtorEq, G.t, iL, pL]; refine ⟨_, hf, ?_⟩; simp only [go_sem, Nat.reduceLT, Nat.reduceEqDiff, Nat.reduceAdd, Nat.reduceMul, Nat.reduceLeDiff, Nat.le_refl, reduceIte, reduceCtorEq, G.t, iL, pL]; refine η _ ?_; clear η κ
      repeat' first | refine c_seq ?_ | refine c_reg' rfl fun K hK => ?_ | ((first | refine r_opN fun κ η => ?_ | refine r_opG rfl fun κ η => ?_); simp only [go_sem, Nat.reduceLT, Nat.reduceEqDiff, Nat.reduceAdd, Nat.reduceMul, Nat.reduceLeDiff, Nat.le_refl, reduceIte, reduceCtorEq, h2, h3, h4]; (repeat refine ⟨by omega, ?_⟩); refine η _ ?_; clear η κ) | (refine r_nil (hK _ ?_); clear hK K) | refine q_seq ?_ | refine c_ret ?_ | (refine q_ret ?_; refine q_r1 ?_; simp only [go_sem, Nat.reduceLT, Nat.reduceEqDiff, Nat.reduceAdd, Nat.reduceMul, Nat.reduceLeDiff, Nat.le_refl, reduceIte, reduceCtorEq, h2, h3, h4])
      rw [fin]
      simp [h3, h4]
    · refine r_opN fun κ η => ?_; simp only [go_sem, Nat.reduceLT, Nat.reduceEqDiff, Nat.reduceAdd, Nat.reduceMul, Nat.reduceLeDiff, Nat.le_refl, reduceIte, reduceCtorEq, G.t, iL, pL]; refine ⟨_, hf, ?_⟩; simp only [go_sem, Nat.reduceLT, Nat.reduceEqDiff, Nat.reduceAdd, Nat.reduceMul, Nat.reduceLeDiff, Nat.le_refl, reduceIte, reduceCtorEq, G.t, iL, pL]; refine η _ ?_; clear η κ
      repeat' first | refine c_seq ?_ | refine c_reg' rfl fun K hK => ?_ | ((first | refine r_opN fun κ η => ?_ | refine r_opG rfl fun κ η => ?_); simp only [go_sem, Nat.reduceLT, Nat.reduceEqDiff, Nat.reduceAdd, Nat.reduceMul, Nat.reduceLeDiff, Nat.le_refl, reduceIte, reduceCtorEq, h2, h3, h4]; (repeat refine ⟨by omega, ?_⟩); refine η _ ?_; clear η κ) | (refine r_nil (hK _ ?_); clear hK K) | refine q_seq ?_ | refine c_ret ?_ | (refine q_ret ?_; refine q_r1 ?_; simp only [go_sem, Nat.reduceLT, Nat.reduceEqDiff, Nat.reduceAdd, Nat.reduceMul, Nat.reduceLeDiff, Nat.le_refl, reduceIte, reduceCtorEq, h2, h3, h4])
      rw [fin]
      simp [h3, h4]
  · by_cases h5 : 4000 < g.ins
    · by_cases h4 : k ≤ 6
      · refine r_opN fun κ η => ?_; simp only [go_sem, Nat.reduceLT, Nat.reduceEqDiff, Nat.reduceAdd, Nat.reduceMul, Nat.reduceLeDiff, Nat.le_refl, reduceIte, reduceCtorEq, G.t, iL, pL]; refine ⟨_, hf, ?_⟩; simp only [go_sem, Nat.reduceLT, Nat.reduceEqDiff, Nat.reduceAdd, Nat.reduceMul, Nat.reduceLeDiff, Nat.le_refl, reduceIte, reduceCtorEq, G.t, iL, pL]; refine η _ ?_; clear η κ
        repeat' first | refine c_seq ?_ | refine c_reg' rfl fun K hK => ?_ | ((first | refine r_opN fun κ η => ?_ | refine r_opG rfl fun κ η => ?_); simp only [go_sem, Nat.reduceLT, Nat.reduceEqDiff, Nat.reduceAdd, Nat.reduceMul, Nat.reduceLeDiff, Nat.le_refl, reduceIte, reduceCtorEq, h2, h3, h5, h4]; (repeat refine ⟨by omega, ?_⟩); refine η _ ?_; clear η κ) | (refine r_nil (hK _ ?_); clear hK K) | refine q_seq ?_ | refine c_ret ?_ | (refine q_ret ?_; refine q_r1 ?_; simp only [go_sem, Nat.reduceLT, Nat.reduceEqDiff, Nat.reduceAdd, Nat.reduceMul, Nat.reduceLeDiff, Nat.le_refl, reduceIte, reduceCtorEq, h2, h3, h5, h4])
        rw [fin]
        simp [h5, h4]
      · refine r_opN fun κ η => ?_; simp only [go_sem, Nat.reduceLT, Nat.reduceEqDiff, Nat.reduceAdd, Nat.reduceMul, Nat.reduceLeDiff, Nat.le_refl, reduceIte, reduceCtorEq, G.t, iL, pL]; refine ⟨_, hf, ?_⟩; simp only [go_sem, Nat.reduceLT, Nat.reduceEqDiff, Nat.reduceAdd, Nat.reduceMul, Nat.reduceLeDiff, Nat.le_refl, reduceIte, reduceCtorEq, G.t, iL, pL]; refine η _ ?_; clear η κ
        repeat' first | refine c_seq ?_ | refine c_reg' rfl fun K hK => ?_ | ((first | refine r_opN fun κ η => ?_ | refine r_opG rfl fun κ η => ?_); simp only [go_sem, Nat.reduceLT, Nat.reduceEqDiff, Nat.reduceAdd, Nat.reduceMul, Nat.reduceLeDiff, Nat.le_refl, reduceIte, reduceCtorEq, h2, h3, h5, h4]; (repeat refine ⟨by omega, ?_⟩); refine η _ ?_; clear η κ) | (refine r_nil (hK _ ?_); clear hK K) | refine q_seq ?_ | refine c_ret ?_ | (refine q_ret ?_; refine q_r1 ?_; simp only [go_sem, Nat.reduceLT, Nat.reduceEqDiff, Nat.reduceAdd, Nat.reduceMul, Nat.reduceLeDiff, Nat.le_refl, reduceIte, reduceCtorEq, h2, h3, h5, h4])
        rw [fin]
        simp [h5, h4]
    · refine r_opN fun κ η => ?_; simp only [go_sem, Nat.reduceLT, Nat.reduceEqDiff, Nat.reduceAdd, Nat.reduceMul, Nat.reduceLeDiff, Nat.le_refl, reduceIte, reduceCtorEq, G.t, iL, pL]; refine ⟨_, hf, ?_⟩; simp only [go_sem, Nat.reduceLT, Nat.reduceEqDiff, Nat.reduceAdd, Nat.reduceMul, Nat.reduceLeDiff, Nat.le_refl, reduceIte, reduceCtorEq, G.t, iL, pL]; refine η _ ?_; clear η κ
      repeat' first | refine c_seq ?_ | refine c_reg' rfl fun K hK => ?_ | ((first | refine r_opN fun κ η => ?_ | refine r_opG rfl fun κ η => ?_); simp only [go_sem, Nat.reduceLT, Nat.reduceEqDiff, Nat.reduceAdd, Nat.reduceMul, Nat.reduceLeDiff, Nat.le_refl, reduceIte, reduceCtorEq, h2, h3, h5]; (repeat refine ⟨by omega, ?_⟩); refine η _ ?_; clear η κ) | (refine r_nil (hK _ ?_); clear hK K) | refine q_seq ?_ | refine c_ret ?_ | (refine q_ret ?_; refine q_r1 ?_; simp only [go_sem, Nat.reduceLT, Nat.reduceEqDiff, Nat.reduceAdd, Nat.reduceMul, Nat.reduceLeDiff, Nat.le_refl, reduceIte, reduceCtorEq, h2, h3, h5])
      rw [fin]
      simp [h3, h5]
end Go.Proofs.Ytpbfkpdfodmcaaa
namespace Go.Proofs.Ytpbfkpdfodmcaaa
open Go.RowKit
set_option maxRecDepth 100000
set_option linter.unusedSimpArgs false
variable (Hy : World → Prop)
attribute [local irreducible] runM runD cwp seqQ blkQ lpQ retQ
structure Sm (g : G) (begin : List Int) (k : Nat) : Prop where
  i0 : 0 ≤ g.ins
  i1 : g.ins ≤ 30
  an : g.ands.length ≤ 60
  nx : g.next.length ≤ 60
  bl : begin.length ≤ 60
  k6 : k ≤ 6
theorem sm_of {g : G} {begin : List Int} {k : Int} (hs : smallG g begin k = true) (hq : unCheck g begin k = 0) : Sm g begin k.toNat := by
  obtain ⟨h1, h2, h3, h4⟩ := of_decide_eq_true hs
  obtain ⟨f1, f2, f3, f4, f5⟩ := of_decide_eq_true h1
  obtain ⟨q1, q2, q3, q4, q5, q6⟩ := unCheck_ok hq
  obtain ⟨⟨g1, g2, g3, g4⟩, _⟩ := checkG_ok q1
  exact ⟨g1, by omega, by omega, by omega, by omega, by omega⟩
theorem sm_cls {g : G} {begin : List Int} {k : Nat} {u : Cn} (hs : Sm g begin k) (hU : UnF g begin k u) : u.cls.length ≤ 1081 := by
  have h := hU.cls
  have h2 : k * (3 * g.ands.length) ≤ 6 * 180 := Nat.mul_le_mul hs.k6 (by have := hs.an; omega)
  omega
theorem sm_vars {g : G} {begin : List Int} {k : Nat} {u : Cn} (hs : Sm g begin k) (hU : UnF g begin k u) : 1 ≤ u.vars ∧ u.vars ≤ 700 := by
  have h := hU.vars
  have h2 : (k : Int) * (g.ins + g.ands.length) ≤ 6 * 90 := Int.mul_le_mul (by have := hs.k6; omega) (by have := hs.an; have := hs.i1; omega) (by have := hs.i0; omega) (by decide)
  have h3 : 0 ≤ (k : Int) * (g.ins + g.ands.length) := Int.mul_nonneg (by omega) (by have := hs.i0; omega)
  have := eithN_le begin
  have := hs.bl
  omega
theorem sm_lim {g : G} {begin : List Int} {k : Nat} {u : Cn} (hs : Sm g begin k) (hU : UnF g begin k u) : Lim u.cls ∧ Lim u.rows := by
  have h1 := sm_cls hs hU
  have h2 := hU.rows
  have h3 := hs.k6
  refine ⟨⟨by omega, fun c hc => Nat.le_trans (hU.len c hc) (by decide)⟩, by omega, fun r hr => ?_⟩
  rw [(hU.row r hr).1, G.N]
  have := hs.i1
  have := hs.an
  have := hs.nx
  omega
theorem sm_chk {g : G} {begin : List Int} {k : Nat} {u : Cn} (hs : Sm g begin k) (hU : UnF g begin k u) : cnfCheck u.cls u.vars = 0 := by
  have h1 := sm_cls hs hU
  have h2 := sm_vars hs hU
  rw [cnfCheck, if_neg (by omega), if_neg]
  rw [Bool.not_eq_true, List.any_eq_false]
  intro c hc
  rw [Bool.not_eq_true, List.any_eq_false]
  intro x hx
  obtain ⟨a1, a2, a3⟩ := hU.ok c hc x hx
  unfold badL
  rw [decide_eq_false (by omega)]
  decide
end Go.Proofs.Ytpbfkpdfodmcaaa
