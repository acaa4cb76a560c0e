import Derived.Test.YtfflfmpkjcomgaaDoorK16
namespace Go.Proofs.YtfflfmpkjcomgaaDoor
open Go.RowKit
set_option maxRecDepth 100000
set_option linter.unusedSimpArgs false
variable (Hy : World → Prop)
attribute [local irreducible] runM runD cwp seqQ blkQ lpQ retQ asQ bdQ bdY retP endR preD retD
theorem flat_len : ∀ rows : List Row, (rows.flatMap fun r => allOfF (litsAt 0 r) []).length ≤ mz rows + rows.length
  | [] => by simp
  | r :: rows => by
    have ih := flat_len rows
    have := allOfF_len0 (litsAt 0 r)
    rw [litsAt_cst] at this
    rw [List.flatMap_cons, List.length_append, mz_cons, List.length_cons]
    omega
theorem flat_take (rows : List Row) (k : Nat) : ((rows.take k).flatMap fun r => allOfF (litsAt 0 r) []).length ≤ mz rows + rows.length := by
  have h := flat_len rows
  have e : rows.flatMap (fun r => allOfF (litsAt 0 r) []) = (rows.take k).flatMap (fun r => allOfF (litsAt 0 r) []) ++ (rows.drop k).flatMap (fun r => allOfF (litsAt 0 r) []) := by rw [← List.flatMap_append, List.take_append_drop]
  rw [e, List.length_append] at h
  omega
set_option maxHeartbeats 8000000 in
theorem factor_ct (n : Nat) (hn2 : n ≤ 1000000) : ∀ (d : Nat) (rows : List Row), mz rows + rows.length ≤ d → mz rows ≤ 1000000 → rows.length ≤ 1000000 → (∀ r ∈ rows, r.length = n) → Ct Tryd.prog Hy 27 [rL rows] [fL (factF d rows)] := by
  have empty : Ct Tryd.prog Hy 27 [rL []] [fL [⟨0, 0, 0⟩]] := by
    refine ct_of (cls := _root_.id) tt_ok follows_ Tryd.func27 rfl (by decide) (Nat.le_of_ble_eq_true rfl) ?_
    rw [show Tryd.f27.ntmps = 52 from rfl, s0_nf]
    simp only [List.zipIdx_cons, List.zipIdx_nil, List.map_cons, List.map_nil, Nat.reduceAdd, rL, List.map_nil]
    repeat' first | refine c_seq ?_ | refine c_reg' rfl fun K E hK hE => ?_ | (refine r_opN fun κ η => ?_; simp only [go_sem, Nat.reduceLT, Nat.reduceEqDiff, Nat.reduceAdd, Nat.reduceMul, Nat.reduceLeDiff, Nat.le_refl, reduceIte, reduceCtorEq, List.length_nil, Int.natCast_zero]; refine η _ ?_; clear η κ) | (refine r_nil (hK _ ?_); clear hE hK E K) | refine q_seq ?_
    refine c_cond _ rfl (fun hq => ?_) (fun hq => (by cases hq))
    repeat' first | refine c_seq ?_ | refine c_reg' rfl fun K E hK hE => ?_ | (refine r_opN fun κ η => ?_; simp only [go_sem, Nat.reduceLT, Nat.reduceEqDiff, Nat.reduceAdd, Nat.reduceMul, Nat.reduceLeDiff, Nat.le_refl, reduceIte, reduceCtorEq]; refine η _ ?_; clear η κ) | (refine r_nil (hK _ ?_); clear hE hK E K) | refine q_seq ?_ | refine c_ret ?_ | refine q_seqR ?_ | (refine q_ret ?_; refine q_r1 ?_; simp only [go_sem, Nat.reduceLT, Nat.reduceEqDiff, Nat.reduceAdd, Nat.reduceMul, Nat.reduceLeDiff, Nat.le_refl, reduceIte, reduceCtorEq])
    rfl
  intro d
  induction d with
  | zero =>
    intro rows h0 _ _ _
    have : rows = [] := List.length_eq_zero_iff.1 (by omega)
    subst this
    exact empty
  | succ d ih =>
    intro rows hd hmz hl hn
    by_cases hne : rows = []
    · subst hne
      exact empty
    have hpos := List.length_pos_iff.2 hne
    have hne0 : ((rows.length : Int) = 0) = False := eq_false (by omega)
    obtain ⟨r0, rs, hrows⟩ := List.exists_cons_of_ne_nil hne
    have hr0 : (rows.headD []).length = n := by
      rw [hrows]
      exact hn r0 (by rw [hrows]; exact List.mem_cons_self)
    clear hrows rs r0
    have hca := fun o => containsAll_cm Hy (o := o) hl (fun r hr => by rw [hn r hr]; omega)
    have hun : factF (d + 1) rows = if rows = [] then [⟨0, 0, 0⟩]
      else if rows.any isAllB = true then [⟨1, 0, 0⟩]
      else if comL rows ≠ [] then allOfF (comL rows) (factF d (rows.map (divL (comL rows))))
      else if 1 < (bestF rows (cands (rows.headD []).length)).2 then
        ⟨4, 0, 2⟩ :: (allOfF [(bestF rows (cands (rows.headD []).length)).1] (factF d ((selR (bestF rows (cands (rows.headD []).length)).1 true rows).map fun r => r.set (bestF rows (cands (rows.headD []).length)).1.p 45)) ++ factF d (selR (bestF rows (cands (rows.headD []).length)).1 false rows))
      else ⟨4, 0, rows.length⟩ :: rows.flatMap fun r => allOfF (litsAt 0 r) [] := rfl
    rw [hun, if_neg hne, hr0]
    clear hun
    simp only [rL] at hca
    refine ct_of (cls := _root_.id) tt_ok follows_ Tryd.func27 rfl (by decide) (Nat.le_of_ble_eq_true rfl) ?_
    rw [show Tryd.f27.ntmps = 52 from rfl, s0_nf]
    simp only [List.zipIdx_cons, List.zipIdx_nil, List.map_cons, List.map_nil, Nat.reduceAdd, rL]
    repeat' first | refine c_seq ?_ | refine c_reg' rfl fun K E hK hE => ?_ | (refine r_opN fun κ η => ?_; simp only [go_sem, Nat.reduceLT, Nat.reduceEqDiff, Nat.reduceAdd, Nat.reduceMul, Nat.reduceLeDiff, Nat.le_refl, reduceIte, reduceCtorEq, hne0]; refine η _ ?_; clear η κ) | (refine r_nil (hK _ ?_); clear hE hK E K) | refine q_seq ?_
    refine c_cond _ rfl (fun hq => (by cases hq)) (fun hq => ?_)
    repeat' first | refine c_seq ?_ | refine c_reg' rfl fun K E hK hE => ?_ | (refine r_opN fun κ η => ?_; simp only [go_sem, Nat.reduceLT, Nat.reduceEqDiff, Nat.reduceAdd, Nat.reduceMul, Nat.reduceLeDiff, Nat.le_refl, reduceIte, reduceCtorEq]; refine η _ ?_; clear η κ) | refine q_seq ?_ | refine c_skip ?_
    refine r_call fun κ η => ?_; simp only [go_sem, Nat.reduceLT, Nat.reduceEqDiff, Nat.reduceAdd, Nat.reduceMul, Nat.reduceLeDiff, Nat.le_refl, reduceIte, reduceCtorEq]; refine ⟨_, hca _, ?_⟩; rintro _ _ ⟨rfl, rfl⟩; simp only [go_sem, Nat.reduceLT, Nat.reduceEqDiff, Nat.reduceAdd, Nat.reduceMul, Nat.reduceLeDiff, Nat.le_refl, reduceIte, reduceCtorEq]; refine η _ ?_; clear η κ
    repeat' first | (refine r_nil (hK _ ?_); clear hE hK E K) | refine q_seq ?_
    by_cases hany : rows.any isAllB = true
    · rw [if_pos hany, hany]
      refine c_cond _ rfl (fun hq => ?_) (fun hq => (by cases hq))
      repeat' first | refine c_seq ?_ | refine c_reg' rfl fun K E hK hE => ?_ | (refine r_opN fun κ η => ?_; simp only [go_sem, Nat.reduceLT, Nat.reduceEqDiff, Nat.reduceAdd, Nat.reduceMul, Nat.reduceLeDiff, Nat.le_refl, reduceIte, reduceCtorEq]; refine η _ ?_; clear η κ) | (refine r_nil (hK _ ?_); clear hE hK E K) | refine q_seq ?_ | refine c_ret ?_ | refine q_seqR ?_ | (refine q_ret ?_; refine q_r1 ?_; simp only [go_sem, Nat.reduceLT, Nat.reduceEqDiff, Nat.reduceAdd, Nat.reduceMul, Nat.reduceLeDiff, Nat.le_refl, reduceIte, reduceCtorEq])
      rfl
    have hany2 : rows.any isAllB = false := by simpa using hany
    rw [if_neg hany, hany2]
    refine c_cond _ rfl (fun hq => (by cases hq)) (fun hq => ?_)
    have hcom := common_ct Hy rows hne hl n hn hn2
    simp only [rL, lL] at hcom
    repeat' first | refine c_seq ?_ | refine c_reg' rfl fun K E hK hE => ?_ | (refine r_opN fun κ η => ?_; simp only [go_sem, Nat.reduceLT, Nat.reduceEqDiff, Nat.reduceAdd, Nat.reduceMul, Nat.reduceLeDiff, Nat.le_refl, reduceIte, reduceCtorEq]; refine η _ ?_; clear η κ) | refine q_seq ?_ | refine c_skip ?_
    refine r_opN fun κ η => ?_; simp only [go_sem, Nat.reduceLT, Nat.reduceEqDiff, Nat.reduceAdd, Nat.reduceMul, Nat.reduceLeDiff, Nat.le_refl, reduceIte, reduceCtorEq]; refine ⟨_, hcom, ?_⟩; simp only [go_sem, Nat.reduceLT, Nat.reduceEqDiff, Nat.reduceAdd, Nat.reduceMul, Nat.reduceLeDiff, Nat.le_refl, reduceIte, reduceCtorEq]; refine η _ ?_; clear η κ
    repeat' first | refine c_seq ?_ | refine c_reg' rfl fun K E hK hE => ?_ | (refine r_opN fun κ η => ?_; simp only [go_sem, Nat.reduceLT, Nat.reduceEqDiff, Nat.reduceAdd, Nat.reduceMul, Nat.reduceLeDiff, Nat.le_refl, reduceIte, reduceCtorEq]; refine η _ ?_; clear η κ) | (refine r_nil (hK _ ?_); clear hE hK E K) | refine q_seq ?_
    by_cases hc : comL rows ≠ []
    · rw [if_pos hc]
      have hcp := List.length_pos_iff.2 hc
      have hci : (0 : Int) < (comL rows).length := by omega
      have h2 := mz_div (rows := rows) (comL rows) (comL_sorted rows) fun x hx => comL_ok hx
      have h4 : (comL rows).length ≤ rows.length * (comL rows).length := Nat.le_mul_of_pos_left _ hpos
      have hlen := factF_len d (rows.map (divL (comL rows)))
      rw [List.length_map] at hlen
      have hf := ih (rows.map (divL (comL rows))) (by rw [List.length_map]; omega) (by omega) (by rw [List.length_map]; exact hl) (fun r hr => by
        obtain ⟨r1, h1, rfl⟩ := List.mem_map.1 hr
        rw [divL_len]
        exact hn r1 h1)
      have hx : ∀ x ∈ comL rows, x.p < n := fun x hx => by
        have := (comL_ok hx).2
        obtain ⟨r1, rs, e⟩ := List.exists_cons_of_ne_nil hne
        have h1 := this r1 (by rw [e]; exact List.mem_cons_self)
        have h2 := (List.getElem?_eq_some_iff.1 h1).1
        rw [hn r1 (by rw [e]; exact List.mem_cons_self)] at h2
        exact h2
      have hfc := factorCommon_ct Hy rows (comL rows) _ hl (by omega) n hn hn2 hx (by omega) hf
      simp only [rL, lL] at hfc
      refine c_cond _ rfl (fun hq => ?_) (fun hq => (by simp only [decide_eq_false_iff_not] at hq; exact absurd hci hq))
      repeat' first | refine c_seq ?_ | refine c_reg' rfl fun K E hK hE => ?_ | (refine r_opN fun κ η => ?_; simp only [go_sem, Nat.reduceLT, Nat.reduceEqDiff, Nat.reduceAdd, Nat.reduceMul, Nat.reduceLeDiff, Nat.le_refl, reduceIte, reduceCtorEq]; refine η _ ?_; clear η κ)
      refine r_opN fun κ η => ?_; simp only [go_sem, Nat.reduceLT, Nat.reduceEqDiff, Nat.reduceAdd, Nat.reduceMul, Nat.reduceLeDiff, Nat.le_refl, reduceIte, reduceCtorEq, fL]; refine ⟨_, hfc, ?_⟩; simp only [go_sem, Nat.reduceLT, Nat.reduceEqDiff, Nat.reduceAdd, Nat.reduceMul, Nat.reduceLeDiff, Nat.le_refl, reduceIte, reduceCtorEq, fL]; refine η _ ?_; clear η κ
      repeat' first | (refine r_opN fun κ η => ?_; simp only [go_sem, Nat.reduceLT, Nat.reduceEqDiff, Nat.reduceAdd, Nat.reduceMul, Nat.reduceLeDiff, Nat.le_refl, reduceIte, reduceCtorEq]; refine η _ ?_; clear η κ) | (refine r_nil (hK _ ?_); clear hE hK E K) | refine q_seq ?_ | refine c_ret ?_ | refine q_seqR ?_ | (refine q_ret ?_; refine q_r1 ?_; simp only [go_sem, Nat.reduceLT, Nat.reduceEqDiff, Nat.reduceAdd, Nat.reduceMul, Nat.reduceLeDiff, Nat.le_refl, reduceIte, reduceCtorEq])
      rfl
    have hcn : comL rows = [] := Decidable.not_not.1 hc
    rw [if_neg hc, hcn]
    refine c_cond _ rfl (fun hq => (by cases hq)) (fun hq => ?_)
    have hmo := mostHad_ct Hy rows hne hl n hn hn2
    simp only [rL, lE] at hmo
    repeat' first | refine c_seq ?_ | refine c_reg' rfl fun K E hK hE => ?_ | (refine r_opN fun κ η => ?_; simp only [go_sem, Nat.reduceLT, Nat.reduceEqDiff, Nat.reduceAdd, Nat.reduceMul, Nat.reduceLeDiff, Nat.le_refl, reduceIte, reduceCtorEq]; refine η _ ?_; clear η κ) | refine q_seq ?_ | refine c_skip ?_
    refine r_opN fun κ η => ?_; simp only [go_sem, Nat.reduceLT, Nat.reduceEqDiff, Nat.reduceAdd, Nat.reduceMul, Nat.reduceLeDiff, Nat.le_refl, reduceIte, reduceCtorEq]; refine ⟨_, hmo, ?_⟩; simp only [go_sem, Nat.reduceLT, Nat.reduceEqDiff, Nat.reduceAdd, Nat.reduceMul, Nat.reduceLeDiff, Nat.le_refl, reduceIte, reduceCtorEq]; refine η _ ?_; clear η κ
    repeat' first | refine c_seq ?_ | refine c_reg' rfl fun K E hK hE => ?_ | (refine r_opN fun κ η => ?_; simp only [go_sem, Nat.reduceLT, Nat.reduceEqDiff, Nat.reduceAdd, Nat.reduceMul, Nat.reduceLeDiff, Nat.le_refl, reduceIte, reduceCtorEq]; refine η _ ?_; clear η κ) | (refine r_nil (hK _ ?_); clear hE hK E K) | refine q_seq ?_
    by_cases hb : 1 < (bestF rows (cands n)).2
    · rw [if_pos hb]
      obtain ⟨b1, b2, b3⟩ := best_ok hb
      rw [decide_eq_true hb]
      generalize (bestF rows (cands n)).1 = x at *
      obtain ⟨m1, m2⟩ := mz_sel rows x b2
      have l1 := factF_len d ((selR x true rows).map fun r => r.set x.p 45)
      have l2 := factF_len d (selR x false rows)
      rw [List.length_map] at l1
      have hf1 := ih ((selR x true rows).map fun r => r.set x.p 45) (by rw [List.length_map]; omega) (by omega) (by rw [List.length_map]; omega) (fun r hr => by
        obtain ⟨r1, h1, rfl⟩ := List.mem_map.1 hr
        rw [List.length_set]
        exact hn r1 (List.mem_filter.1 h1).1)
      have hf2 := ih (selR x false rows) (by omega) (by omega) (by omega) (fun r hr => hn r (List.mem_filter.1 hr).1)
      have hfm := factorMost_ct Hy rows x _ _ hl n hn hn2 b1 (by omega) (by omega) hf1 hf2
      simp only [rL, lE] at hfm
      refine c_cond _ rfl (fun hq => ?_) (fun hq => (by cases hq))
      repeat' first | refine c_seq ?_ | refine c_reg' rfl fun K E hK hE => ?_ | (refine r_opN fun κ η => ?_; simp only [go_sem, Nat.reduceLT, Nat.reduceEqDiff, Nat.reduceAdd, Nat.reduceMul, Nat.reduceLeDiff, Nat.le_refl, reduceIte, reduceCtorEq]; refine η _ ?_; clear η κ)
      refine r_opN fun κ η => ?_; simp only [go_sem, Nat.reduceLT, Nat.reduceEqDiff, Nat.reduceAdd, Nat.reduceMul, Nat.reduceLeDiff, Nat.le_refl, reduceIte, reduceCtorEq, fL]; refine ⟨_, hfm, ?_⟩; simp only [go_sem, Nat.reduceLT, Nat.reduceEqDiff, Nat.reduceAdd, Nat.reduceMul, Nat.reduceLeDiff, Nat.le_refl, reduceIte, reduceCtorEq, fL]; refine η _ ?_; clear η κ
      repeat' first | (refine r_opN fun κ η => ?_; simp only [go_sem, Nat.reduceLT, Nat.reduceEqDiff, Nat.reduceAdd, Nat.reduceMul, Nat.reduceLeDiff, Nat.le_refl, reduceIte, reduceCtorEq]; refine η _ ?_; clear η κ) | (refine r_nil (hK _ ?_); clear hE hK E K) | refine q_seq ?_ | refine c_ret ?_ | refine q_seqR ?_ | (refine q_ret ?_; refine q_r1 ?_; simp only [go_sem, Nat.reduceLT, Nat.reduceEqDiff, Nat.reduceAdd, Nat.reduceMul, Nat.reduceLeDiff, Nat.le_refl, reduceIte, reduceCtorEq])
      rfl
    · rw [if_neg hb, decide_eq_false hb]
      refine c_cond _ rfl (fun hq => (by cases hq)) (fun hq => ?_)
      repeat' first | refine c_seq ?_ | refine c_block ?_ | refine c_reg' rfl fun K E hK hE => ?_ | (refine r_opN fun κ η => ?_; simp only [go_sem, Nat.reduceLT, Nat.reduceEqDiff, Nat.reduceAdd, Nat.reduceMul, Nat.reduceLeDiff, Nat.le_refl, reduceIte, reduceCtorEq]; refine η _ ?_; clear η κ) | (refine r_nil (hK _ ?_); clear hE hK E K) | refine q_seq ?_ | refine c_skip ?_
      clear hmo hcom hca hc hcn hb hany hany2 ih
      refine c_loop (fun m s' => ∃ k : Nat, m = rows.length - k ∧ k ≤ rows.length ∧ ∃ F G0 q, s' = nf 52 F G0 [(6, .row 38 q), (39, .t (rL rows)), (40, .t (.i .i64 rows.length)), (41, .t (.i .i64 k))] [] ∧ G0 38 = ⟨q, .row 52 3 ([.i .i64 4, .i .i64 0, .i .i64 rows.length] :: ((rows.take k).flatMap fun r => allOfF (litsAt 0 r) []).map fE)⟩) rows.length ?_ ?_
      · exact ⟨0, by omega, by omega, _, _, _, nf_of rfl ⟨rfl, rfl, rfl, rfl, trivial⟩ trivial, rfl⟩
      rintro m s' ⟨k, rfl, hk, F, G0, q, rfl, h38⟩
      simp only [rL]
      have hfl := flat_take rows k
      repeat' first | refine c_seq ?_ | refine c_reg' rfl fun K E hK hE => ?_ | (refine r_opN fun κ η => ?_; simp only [go_sem, Nat.reduceLT, Nat.reduceEqDiff, Nat.reduceAdd, Nat.reduceMul, Nat.reduceLeDiff, Nat.le_refl, reduceIte, reduceCtorEq]; refine η _ ?_; clear η κ) | (refine r_nil (hK _ ?_); clear hE hK E K) | refine q_seq ?_
      refine c_cond _ rfl (fun hq => ?_) (fun hq => ?_)
      · simp only [decide_eq_true_eq] at hq
        obtain ⟨r, hr⟩ : ∃ r, rows[k]? = some r := ⟨_, List.getElem?_eq_getElem (by omega)⟩
        have hrn := hn r (List.mem_of_getElem? hr)
        have hlt := literals2_ct Hy r (by omega)
        have hll := litsAt_len r 0
        have hal := allOf_ct Hy (litsAt 0 r) [] (by omega) (fun x hx => by
          have h1 := (litsAt_mem r 0 x hx).2.1
          have := (List.getElem?_eq_some_iff.1 h1).1
          omega) (by simp)
        have hl0 := allOfF_len0 (litsAt 0 r)
        have hz := eq_true (fm3 (allOfF (litsAt 0 r) []))
        have hs : ((rows.take (k + 1)).flatMap fun r => allOfF (litsAt 0 r) []).map fE = ((rows.take k).flatMap fun r => allOfF (litsAt 0 r) []).map fE ++ (allOfF (litsAt 0 r) []).map fun f => [T.i .i64 f.k, T.i .i64 f.lit, T.i .i64 f.kids] := by
          rw [List.take_add_one, hr, List.flatMap_append, List.map_append]
          simp [fE]
        have hlen : (((rows.take k).flatMap fun r => allOfF (litsAt 0 r) []).map fE).length ≤ 2000000 := by rw [List.length_map]; omega
        have hlen2 : ((allOfF (litsAt 0 r) []).map fun f => [T.i .i64 f.k, T.i .i64 f.lit, T.i .i64 f.kids]).length ≤ 2000000 := by rw [List.length_map]; omega
        simp only [lL, fL, List.map_nil] at hlt hal
        generalize ((rows.take k).flatMap fun r => allOfF (litsAt 0 r) []).map fE = w1 at h38 hs hlen
        generalize (allOfF (litsAt 0 r) []).map (fun f => [T.i .i64 f.k, T.i .i64 f.lit, T.i .i64 f.kids]) = w2 at hal hz hs hlen2
        repeat' first | refine c_seq ?_ | refine c_block ?_ | refine c_reg' rfl fun K E hK hE => ?_ | (refine r_opN fun κ η => ?_; simp only [go_sem, Nat.reduceLT, Nat.reduceEqDiff, Nat.reduceAdd, Nat.reduceMul, Nat.reduceLeDiff, Nat.le_refl, reduceIte, reduceCtorEq, hr]; (repeat refine ⟨by omega, ?_⟩); refine η _ ?_; clear η κ) | (refine r_nil (hK _ ?_); clear hE hK E K) | refine q_seq ?_ | refine c_skip ?_
        refine r_opN fun κ η => ?_; simp only [go_sem, Nat.reduceLT, Nat.reduceEqDiff, Nat.reduceAdd, Nat.reduceMul, Nat.reduceLeDiff, Nat.le_refl, reduceIte, reduceCtorEq]; refine ⟨_, hlt, ?_⟩; simp only [go_sem, Nat.reduceLT, Nat.reduceEqDiff, Nat.reduceAdd, Nat.reduceMul, Nat.reduceLeDiff, Nat.le_refl, reduceIte, reduceCtorEq]; refine η _ ?_; clear η κ
        refine r_opN fun κ η => ?_; simp only [go_sem, Nat.reduceLT, Nat.reduceEqDiff, Nat.reduceAdd, Nat.reduceMul, Nat.reduceLeDiff, Nat.le_refl, reduceIte, reduceCtorEq]; refine ⟨_, hal, ?_⟩; simp only [go_sem, Nat.reduceLT, Nat.reduceEqDiff, Nat.reduceAdd, Nat.reduceMul, Nat.reduceLeDiff, Nat.le_refl, reduceIte, reduceCtorEq]; refine η _ ?_; clear η κ
        repeat' first | refine c_reg' rfl fun K E hK hE => ?_ | (refine r_opN fun κ η => ?_; simp only [go_sem, Nat.reduceLT, Nat.reduceEqDiff, Nat.reduceAdd, Nat.reduceMul, Nat.reduceLeDiff, Nat.le_refl, reduceIte, reduceCtorEq, h38, hz]; (repeat refine ⟨by omega, ?_⟩); refine η _ ?_; clear η κ) | (refine r_nil (hK _ ?_); clear hE hK E K) | refine q_seq ?_ | refine q_blk ?_ | refine q_lpN ?_
        exact ⟨rows.length - (k + 1), by omega, k + 1, rfl, by omega, _, _, _, nf_of rfl ⟨rfl, rfl, rfl, rfl, trivial⟩ trivial, by rw [hs]; rfl⟩
      · simp only [decide_eq_false_iff_not] at hq
        rw [List.take_of_length_le (by omega)] at h38
        have hz := fm3 (⟨4, 0, rows.length⟩ :: rows.flatMap fun r => allOfF (litsAt 0 r) [])
        have h38 : G0 38 = ⟨q, .row 52 3 ((⟨4, 0, rows.length⟩ :: rows.flatMap fun r => allOfF (litsAt 0 r) []).map fun (f : Fm) => [T.i .i64 f.k, T.i .i64 f.lit, T.i .i64 f.kids])⟩ := h38
        repeat' first | refine c_seq ?_ | refine c_reg' rfl fun K E hK hE => ?_ | (refine r_opN fun κ η => ?_; simp only [go_sem, Nat.reduceLT, Nat.reduceEqDiff, Nat.reduceAdd, Nat.reduceMul, Nat.reduceLeDiff, Nat.le_refl, reduceIte, reduceCtorEq, h38]; refine η _ ?_; clear η κ) | (refine r_nil (hK _ ?_); clear hE hK E K) | refine q_seq ?_ | refine c_exit ?_ | refine c_ret ?_ | refine q_seqE ?_ | refine q_blkHit ?_ | refine q_lpE ?_ | (refine q_ret ?_; refine q_r1 ?_; simp only [go_sem, Nat.reduceLT, Nat.reduceEqDiff, Nat.reduceAdd, Nat.reduceMul, Nat.reduceLeDiff, Nat.le_refl, reduceIte, reduceCtorEq, h38])
        rfl
end Go.Proofs.YtfflfmpkjcomgaaDoor
