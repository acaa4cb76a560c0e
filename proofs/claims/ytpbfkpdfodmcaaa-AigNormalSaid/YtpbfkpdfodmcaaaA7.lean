import Derived.Test.YtpbfkpdfodmcaaaA6
namespace Go.Proofs.Ytpbfkpdfodmcaaa
open Go.RowKit
set_option maxRecDepth 100000
set_option linter.unusedSimpArgs false
variable (Hy : World → Prop)
attribute [local irreducible] runM runD cwp seqQ blkQ lpQ retQ
theorem rfirst_ct (g : G) (h : 0 ≤ g.ins ∧ g.ins ≤ 140737488355328 ∧ g.next.length ≤ 140737488355328) : Ct Try.prog Hy 50 [g.t] [.i .i64 (1 + g.ins + g.next.length)] := by
  obtain ⟨h1, h2, h3⟩ := h
  refine ct_of (cls := id) tt_ok follows_ Try.func50 rfl (by decide) (Nat.le_of_ble_eq_true rfl) ?_
  rw [show Try.f50.ntmps = 10 from rfl, s0_nf]
  simp only [List.zipIdx_cons, List.zipIdx_nil, List.map_cons, List.map_nil, Nat.reduceAdd, G.t, iL, pL]
  repeat' first | refine c_seq ?_ | refine c_reg' rfl fun K hK => ?_ | (refine r_opN fun κ η => ?_; simp only [go_sem, Nat.reduceLT, Nat.reduceEqDiff, Nat.reduceAdd, Nat.reduceMul, Nat.reduceLeDiff, Nat.le_refl, reduceIte, reduceCtorEq]; (repeat refine ⟨by omega, ?_⟩); refine η _ ?_; clear η κ) | (refine r_nil (hK _ ?_); clear hK K) | refine q_seq ?_ | refine c_ret ?_ | (refine q_ret ?_; refine q_r1 ?_; simp only [go_sem, Nat.reduceLT, Nat.reduceEqDiff, Nat.reduceAdd, Nat.reduceMul, Nat.reduceLeDiff, Nat.le_refl, reduceIte, reduceCtorEq])
theorem rliteral_ct (a n : Int) (h : -9 ≤ n ∧ n ≤ 1000000) : Ct Try.prog Hy 63 [.i .i64 a, .i .i64 n] [.b (litOk a (n - 1))] := by
  refine ct_of (cls := id) tt_ok follows_ Try.func63 rfl (by decide) (Nat.le_of_ble_eq_true rfl) ?_
  rw [show Try.f63.ntmps = 13 from rfl, s0_nf]
  simp only [List.zipIdx_cons, List.zipIdx_nil, List.map_cons, List.map_nil, Nat.reduceAdd]
  by_cases h0 : 0 ≤ a
  · repeat' first | refine c_seq ?_ | refine c_reg' rfl fun K hK => ?_ | ((first | refine r_opN fun κ η => ?_ | refine r_opG rfl fun κ η => ?_); simp only [go_sem, Nat.reduceLT, Nat.reduceEqDiff, Nat.reduceAdd, Nat.reduceMul, Nat.reduceLeDiff, Nat.le_refl, reduceIte, reduceCtorEq, h0]; (repeat refine ⟨by omega, ?_⟩); refine η _ ?_; clear η κ) | (refine r_nil (hK _ ?_); clear hK K) | refine q_seq ?_ | refine c_ret ?_ | (refine q_ret ?_; refine q_r1 ?_; simp only [go_sem, Nat.reduceLT, Nat.reduceEqDiff, Nat.reduceAdd, Nat.reduceMul, Nat.reduceLeDiff, Nat.le_refl, reduceIte, reduceCtorEq, h0])
    have : decide (a < 2 * n) = litOk a (n - 1) := by
      unfold litOk
      by_cases h1 : a < 2 * n
      · rw [decide_eq_true h1, decide_eq_true (by omega)]
      · rw [decide_eq_false h1, decide_eq_false (by omega)]
    rw [this]
  · repeat' first | refine c_seq ?_ | refine c_reg' rfl fun K hK => ?_ | ((first | refine r_opN fun κ η => ?_ | refine r_opG rfl fun κ η => ?_); simp only [go_sem, Nat.reduceLT, Nat.reduceEqDiff, Nat.reduceAdd, Nat.reduceMul, Nat.reduceLeDiff, Nat.le_refl, reduceIte, reduceCtorEq, h0]; refine η _ ?_; clear η κ) | (refine r_nil (hK _ ?_); clear hK K) | refine q_seq ?_ | refine c_ret ?_ | (refine q_ret ?_; refine q_r1 ?_; simp only [go_sem, Nat.reduceLT, Nat.reduceEqDiff, Nat.reduceAdd, Nat.reduceMul, Nat.reduceLeDiff, Nat.le_refl, reduceIte, reduceCtorEq, h0])
    rw [show litOk a (n - 1) = false from decide_eq_false (fun h => h0 h.1)]
theorem rlit_ct (l : List Bool) (a : Int) (h : 0 ≤ a ∧ a / 2 < l.length) (hm : a ≤ 9223372036854775807) : Ct Try.prog Hy 30 [bL l, .i .i64 a] [.b (l.getD (a / 2).toNat false != decide (a % 2 = 1))] := by
  obtain ⟨h1, h2⟩ := h
  refine ct_of (cls := id) tt_ok follows_ Try.func30 rfl (by decide) (Nat.le_of_ble_eq_true rfl) ?_
  rw [show Try.f30.ntmps = 14 from rfl, s0_nf]
  simp only [List.zipIdx_cons, List.zipIdx_nil, List.map_cons, List.map_nil, Nat.reduceAdd, bL]
  obtain ⟨x, hx⟩ : ∃ x, l[(a / 2).toNat]? = some x := ⟨_, List.getElem?_eq_getElem (by omega)⟩
  repeat' first | refine c_seq ?_ | refine c_reg' rfl fun K hK => ?_ | (refine r_opN fun κ η => ?_; simp only [go_sem, Nat.reduceLT, Nat.reduceEqDiff, Nat.reduceAdd, Nat.reduceMul, Nat.reduceLeDiff, Nat.le_refl, reduceIte, reduceCtorEq, hx, Int.tdiv_eq_ediv_of_nonneg h1, Int.tmod_eq_emod_of_nonneg h1]; (repeat refine ⟨by omega, ?_⟩); refine η _ ?_; clear η κ) | (refine r_nil (hK _ ?_); clear hK K) | refine q_seq ?_ | refine c_ret ?_ | (refine q_ret ?_; refine q_r1 ?_; simp only [go_sem, Nat.reduceLT, Nat.reduceEqDiff, Nat.reduceAdd, Nat.reduceMul, Nat.reduceLeDiff, Nat.le_refl, reduceIte, reduceCtorEq, hx, Int.tdiv_eq_ediv_of_nonneg h1, Int.tmod_eq_emod_of_nonneg h1])
  rw [List.getD_eq_getElem?_getD, hx]
  rfl
/-- within the limits, all there as it should be -/
structure G.Ok (g : G) : Prop where
  len : g.init.length = g.next.length
  i : ∀ x ∈ g.init, ¬ (x < 0 ∨ 2 < x)
  a : ∀ (k : Nat) x, g.ands[k]? = some x → litOk x.1 (g.first + k - 1) = true ∧ litOk x.2 (g.first + k - 1) = true
  n : ∀ x ∈ g.next, litOk x g.top = true
  o : ∀ x ∈ g.outs, litOk x g.top = true
theorem checkG_eq (g : G) (h : ¬ (g.ins < 0 ∨ 4000 < g.ins ∨ 4000 < g.top ∨ 4000 < (g.outs.length : Int))) : (g.Ok → checkG g = 0) ∧ (¬ g.Ok → checkG g = 1) := by
  unfold checkG
  rw [if_neg h]
  refine ⟨fun ⟨h1, h2, h3, h4, h5⟩ => ?_, fun hn => ?_⟩
  · rw [if_neg (by omega), if_neg, if_neg, if_neg, if_neg]
    · rw [Bool.not_eq_true, List.any_eq_false]
      intro x hx
      rw [h5 x hx]
      decide
    · rw [Bool.not_eq_true, List.any_eq_false]
      intro x hx
      rw [h4 x hx]
      decide
    · rw [Bool.not_eq_false, andsOk_iff]
      exact h3
    · rw [Bool.not_eq_true, List.any_eq_false]
      intro x hx
      simpa using h2 x hx
  · split
    · rfl
    · split
      · rfl
      · split
        · rfl
        · split
          · rfl
          · split
            · rfl
            · rename_i e1 e2 e3 e4 e5
              refine absurd ⟨by omega, fun x hx => ?_, (andsOk_iff _ _).1 (by simpa using e3), fun x hx => ?_, fun x hx => ?_⟩ hn
              · have := (List.any_eq_false.1 (Bool.not_eq_true _ ▸ e2)) x hx
                simpa using this
              · have := (List.any_eq_false.1 (Bool.not_eq_true _ ▸ e4)) x hx
                simpa using this
              · have := (List.any_eq_false.1 (Bool.not_eq_true _ ▸ e5)) x hx
                simpa using this
end Go.Proofs.Ytpbfkpdfodmcaaa
