import Derived.Test.YtpbfkpdfodmcaaaU3
namespace Go.Proofs.Ytpbfkpdfodmcaaa
open Go.RowKit
set_option maxRecDepth 100000
set_option linter.unusedSimpArgs false
variable (Hy : World → Prop)
attribute [local irreducible] runM runD cwp seqQ blkQ lpQ retQ
theorem unU_f0 {g : G} {begin : List Int} (hb : begin.length = g.next.length) {j : Nat} (hj : firstN g ≤ j) : ∀ k, (unU g begin k).f j = 0
  | 0 => by
    show firstF g begin begin.length j = 0
    unfold firstF firstN at *
    rw [if_neg (by omega), if_neg (by omega)]
  | k + 1 => by
    show nextF g _ g.next.length j = 0
    unfold nextF firstN at *
    rw [if_neg (by omega), if_neg (by omega)]
theorem par_or (i : Nat) : (par i = 10000 ∧ par (i + 1) = 10001) ∨ (par i = 10001 ∧ par (i + 1) = 10000) := by
  unfold par
  by_cases h : i % 2 = 0
  · exact .inl ⟨if_pos h, if_neg (by omega)⟩
  · exact .inr ⟨if_neg h, if_pos (by omega)⟩
theorem rstepU_cm (g : G) (u : Us) (o : Nat → O) {i n1 n2 kk : Nat} (hg : GOk g g.N) (hS : u.v ≤ 500000 ∧ 1 ≤ u.v ∧ u.rows.length ≤ 90 ∧ u.cls.length ≤ 800000) (hU : RU g u (par i) n1 n2 kk o) :
    Cm Try.prog Hy 95 [.ag [.t (.i .i64 u.v), .row 901 n1, .row 902 n2], .ag g.cells] o fun rs o' => ∃ m1 m2 k2, rs = [.ag [.t (.i .i64 (unNext g u).v), .row 901 m1, .row 902 m2]] ∧ RU g (unNext g u) (par (i + 1)) m1 m2 k2 o' ∧ Fr 1000 o o' [901, 902, 10000, 10001] := by
  rcases par_or i with ⟨h0, h1⟩ | ⟨h0, h1⟩ <;> rw [h0] at hU <;> rw [h1]
  · exact rstep0_cm Hy g u o hg hS hU
  · exact rstep1_cm Hy g u o hg hS hU
structure RI (g : G) (begin : List Int) (i n1 n2 kk : Nat) (oc : Nat → O) : Prop where
  u : RU g (unU g begin i) (par i) n1 n2 kk oc
  a : oc 3 = ⟨1, .cells 25 g.cells⟩
  b : oc 6 = ⟨1, .cells 55 [.t (.i .i64 0), .nilS, .nilS]⟩
  c : oc 9 = ⟨1, .cells 55 [.t (.i .i64 (unU g begin i).v), .row 901 n1, .row 902 n2]⟩
set_option maxHeartbeats 4000000 in
theorem runroll_ct (g : G) (begin : List Int) (k : Int) (h : g.Small) (hb : begin.length ≤ 140737488355328) : Ct Try.prog Hy 46 [g.t, iL begin, .i .i64 k] (unrR g begin k) := by
  have hck := can_ct Hy g begin k h hb
  refine ct_of (cls := _root_.id) tt_ok follows_ Try.func46 rfl (by decide) (Nat.le_of_ble_eq_true rfl) ?_
  rw [show Try.f46.ntmps = 50 from rfl, s0_nf]
  simp only [List.zipIdx_cons, List.zipIdx_nil, List.map_cons, List.map_nil, Nat.reduceAdd, G.t, iL, pL]
  repeat' first | refine c_seq ?_ | refine c_reg' rfl fun K hK => ?_ | (refine r_opN fun κ η => ?_; simp only [go_sem, Nat.reduceLT, Nat.reduceEqDiff, Nat.reduceAdd, Nat.reduceMul, Nat.reduceLeDiff, Nat.le_refl, reduceIte, reduceCtorEq]; refine η _ ?_; clear η κ) | (refine r_nil (hK _ ?_); clear hK K) | refine q_seq ?_
  refine r_opN fun κ η => ?_; simp only [go_sem, Nat.reduceLT, Nat.reduceEqDiff, Nat.reduceAdd, Nat.reduceMul, Nat.reduceLeDiff, Nat.le_refl, reduceIte, reduceCtorEq, G.t, iL, pL]; refine ⟨_, hck, ?_⟩; simp only [go_sem, Nat.reduceLT, Nat.reduceEqDiff, Nat.reduceAdd, Nat.reduceMul, Nat.reduceLeDiff, Nat.le_refl, reduceIte, reduceCtorEq, G.t, iL, pL]; refine η _ ?_; clear η κ
  repeat' first | refine c_seq ?_ | refine c_reg' rfl fun K hK => ?_ | (refine r_opN fun κ η => ?_; simp only [go_sem, Nat.reduceLT, Nat.reduceEqDiff, Nat.reduceAdd, Nat.reduceMul, Nat.reduceLeDiff, Nat.le_refl, reduceIte, reduceCtorEq]; refine η _ ?_; clear η κ) | (refine r_nil (hK _ ?_); clear hK K) | refine q_seq ?_
  refine c_cond _ rfl (fun hq => ?_) (fun hq => ?_)
  · simp only [Bool.not_eq_true', decide_eq_false_iff_not] at hq
    repeat' first | refine c_seq ?_ | refine c_reg' rfl fun K hK => ?_ | (refine r_opN fun κ η => ?_; simp only [go_sem, Nat.reduceLT, Nat.reduceEqDiff, Nat.reduceAdd, Nat.reduceMul, Nat.reduceLeDiff, Nat.le_refl, reduceIte, reduceCtorEq, unrR, if_pos hq, Cn.t, cL]; refine η _ ?_; clear η κ) | (refine r_nil (hK _ ?_); clear hK K) | refine q_seq ?_ | refine c_ret ?_ | refine q_seqR ?_ | (refine q_ret ?_; refine q_rc ?_; simp only [go_sem, Nat.reduceLT, Nat.reduceEqDiff, Nat.reduceAdd, Nat.reduceMul, Nat.reduceLeDiff, Nat.le_refl, reduceIte, reduceCtorEq, unrR, if_pos hq, Cn.t, cL])
  simp only [Bool.not_eq_false', decide_eq_true_eq] at hq
  obtain ⟨q1, q2, q3, q4, q5, q6⟩ := unCheck_ok hq
  have hg := gok_of q1
  have hN := hg.hN
  have hNl := hg.le
  have hg0 := hg.i0
  have hle := eithN_le begin
  have hbl : begin.length ≤ 4000 := by omega
  rw [unrR, if_neg (not_not_intro hq)]
  repeat' first | refine c_seq ?_ | refine c_reg' rfl fun K hK => ?_ | (refine r_opN fun κ η => ?_; simp only [go_sem, Nat.reduceLT, Nat.reduceEqDiff, Nat.reduceAdd, Nat.reduceMul, Nat.reduceLeDiff, Nat.le_refl, reduceIte, reduceCtorEq]; refine η _ ?_; clear η κ) | refine q_seq ?_ | refine c_skip ?_
  refine r_call fun κ η => ?_; simp only [go_sem, Nat.reduceLT, Nat.reduceEqDiff, Nat.reduceAdd, Nat.reduceMul, Nat.reduceLeDiff, Nat.le_refl, reduceIte, reduceCtorEq, G.cells, iL, pL]; refine ⟨_, rbegins_cm Hy g begin _ (by omega) hbl q2 q3, ?_⟩; rintro _ o1 ⟨n1, n2, kk, rfl, hL1, hL2, hR, hF⟩; simp only [go_sem, Nat.reduceLT, Nat.reduceEqDiff, Nat.reduceAdd, Nat.reduceMul, Nat.reduceLeDiff, Nat.le_refl, reduceIte, reduceCtorEq, G.cells, iL, pL]; refine η _ ?_; clear η κ
  have h9 : (o1 9).gen = 0 := by rw [hF 9 (.inl (by decide)) (by decide)]; rfl
  repeat' first | refine c_seq ?_ | refine c_block ?_ | refine c_reg' rfl fun K hK => ?_ | (refine r_opN fun κ η => ?_; simp only [go_sem, Nat.reduceLT, Nat.reduceEqDiff, Nat.reduceAdd, Nat.reduceMul, Nat.reduceLeDiff, Nat.le_refl, reduceIte, reduceCtorEq, h9]; refine η _ ?_; clear η κ) | (refine r_nil (hK _ ?_); clear hK K) | refine q_seq ?_
  refine c_loop (fun q s' => ∃ i : Nat, q = k.toNat - i ∧ i ≤ k.toNat ∧ ∃ F oc n1 n2 kk, s' = nf 50 F oc [(2, .t (.i .i64 k)), (3, .ptr 3 1 0), (6, .ptr 6 1 0), (9, .ptr 9 1 0), (10, .t (.i .i64 i))] [] ∧ RI g begin i n1 n2 kk oc) k.toNat ?_ ?_
  · refine ⟨0, by omega, by omega, _, _, n1, n2, kk, nf_of rfl ⟨rfl, rfl, rfl, rfl, rfl, trivial⟩ trivial, ⟨⟨hL1, hL2, hR⟩, ?_, ?_, ?_⟩⟩
    · exact hF 3 (.inl (by decide)) (by decide)
    · exact hF 6 (.inl (by decide)) (by decide)
    · rfl
  clear hL1 hL2 hR hF
  rintro q s' ⟨i, rfl, hi, F, oc, n1, n2, kk, rfl, hI⟩
  have ha := hI.a
  have hc := hI.c
  simp only [G.cells, iL, pL] at ha
  repeat' first | refine c_seq ?_ | refine c_reg' rfl fun K hK => ?_ | (refine r_opN fun κ η => ?_; simp only [go_sem, Nat.reduceLT, Nat.reduceEqDiff, Nat.reduceAdd, Nat.reduceMul, Nat.reduceLeDiff, Nat.le_refl, reduceIte, reduceCtorEq]; refine η _ ?_; clear η κ) | (refine r_nil (hK _ ?_); clear hK K) | refine q_seq ?_
  refine c_cond _ rfl (fun hq2 => ?_) (fun hq2 => ?_)
  · simp only [decide_eq_true_eq] at hq2
    have hvv := unU_v g begin i
    have hm := mul_in (k := (i : Int)) (q := g.ins + g.ands.length) (by omega) (by omega)
    have hcc := unU_cls g begin i
    have hle2 : i * (3 * g.ands.length) ≤ 40 * 12000 := Nat.mul_le_mul (by omega) (by omega)
    repeat' first | refine c_seq ?_ | refine c_block ?_ | refine c_reg' rfl fun K hK => ?_ | (refine r_opN fun κ η => ?_; simp only [go_sem, Nat.reduceLT, Nat.reduceEqDiff, Nat.reduceAdd, Nat.reduceMul, Nat.reduceLeDiff, Nat.le_refl, reduceIte, reduceCtorEq, ha, hc]; refine η _ ?_; clear η κ) | refine q_seq ?_ | refine c_skip ?_
    refine r_call fun κ η => ?_; simp only [go_sem, Nat.reduceLT, Nat.reduceEqDiff, Nat.reduceAdd, Nat.reduceMul, Nat.reduceLeDiff, Nat.le_refl, reduceIte, reduceCtorEq, G.cells, iL, pL]; refine ⟨_, rstepU_cm Hy g (unU g begin i) _ hg ⟨by omega, by omega, by rw [unU_rows]; omega, by omega⟩ (by exact hI.u), ?_⟩; rintro _ o4 ⟨m1, m2, k4, rfl, hI4, hF4⟩; simp only [go_sem, Nat.reduceLT, Nat.reduceEqDiff, Nat.reduceAdd, Nat.reduceMul, Nat.reduceLeDiff, Nat.le_refl, reduceIte, reduceCtorEq, G.cells, iL, pL]; refine η _ ?_; clear η κ
    have e9 : o4 9 = oc 9 := hF4 9 (.inl (by decide)) (by decide)
    have h9 := e9.trans hc
    repeat' first | refine c_reg' rfl fun K hK => ?_ | (refine r_opN fun κ η => ?_; simp only [go_sem, Nat.reduceLT, Nat.reduceEqDiff, Nat.reduceAdd, Nat.reduceMul, Nat.reduceLeDiff, Nat.le_refl, reduceIte, reduceCtorEq, h9]; (repeat refine ⟨by omega, ?_⟩); refine η _ ?_; clear η κ) | (refine r_nil (hK _ ?_); clear hK K) | refine q_seq ?_ | refine q_blk ?_ | refine q_lpN ?_
    have p9 : ¬ par (i + 1) = 9 := by unfold par; split <;> decide
    exact ⟨k.toNat - (i + 1), by omega, i + 1, rfl, by omega, _, _, m1, m2, k4, nf_of rfl ⟨rfl, rfl, rfl, rfl, rfl, trivial⟩ trivial, ⟨⟨hI4.cl, hI4.lt, (if_neg p9).trans hI4.rw_⟩, (hF4 3 (.inl (by decide)) (by decide)).trans hI.a, (hF4 6 (.inl (by decide)) (by decide)).trans hI.b, rfl⟩⟩
  simp only [decide_eq_false_iff_not] at hq2
  obtain rfl : i = k.toNat := by omega
  have hb6 := hI.b
  obtain ⟨hcl, hlt, hrw⟩ := hI.u
  have hf0 : ∀ j, firstN g ≤ j → (unU g begin k.toNat).f j = 0 := fun j hj => unU_f0 q2 hj _
  have hrl := unU_rows g begin k.toNat
  have hgoal : (unrC g begin k.toNat) = ⟨(unU g begin k.toNat).v, (unU g begin k.toNat).cls, (unU g begin k.toNat).rows ++ [mk g.N (unU g begin k.toNat).f]⟩ := rfl
  rw [hgoal]
  have hNN : g.N = firstN g + g.ands.length := by unfold firstN G.N; omega
  rw [hNN]
  clear hgoal
  generalize unU g begin k.toNat = u at *
  obtain ⟨kN, hkN⟩ : ∃ kN : Nat, (kN : Int) = k := ⟨k.toNat, by omega⟩
  have hkt : k.toNat = kN := by omega
  rw [hkt] at hrl
  obtain ⟨rm, hrm⟩ : ∃ rm, rm = u.rows.map fun r => [A.t (iL r)] := ⟨_, rfl⟩
  have hrml : rm.length = kN := by rw [hrm, List.length_map, hrl]
  have hset : ∀ a b : A, (rm ++ [[a]]).set kN [b] = rm ++ [[b]] := fun a b => by
    rw [List.set_append_right _ _ (by omega), hrml]
    simp
  have hget : ∀ a : A, (rm ++ [[a]])[kN]? = some [a] := fun a => by
    rw [List.getElem?_append_right (by omega), hrml]
    simp
  have hll : ∀ a : A, (rm ++ [[a]]).length = kN + 1 := fun a => by rw [List.length_append, hrml]; rfl
  rw [← hrm] at hlt
  rcases (par_or k.toNat).imp (·.1) (·.1) with hp | hp <;> rw [hp] at hrw hlt
  · repeat' first | refine c_seq ?_ | refine c_block ?_ | refine c_reg' rfl fun K hK => ?_ | (refine r_opN fun κ η => ?_; simp only [go_sem, Nat.reduceLT, Nat.reduceEqDiff, Nat.reduceAdd, Nat.reduceMul, Nat.reduceLeDiff, Nat.le_refl, reduceIte, reduceCtorEq]; refine η _ ?_; clear η κ) | (refine r_nil (hK _ ?_); clear hK K) | refine q_seq ?_ | refine c_exit ?_ | refine q_seqE ?_ | refine q_blkHit ?_ | refine q_lpE ?_
    refine c_loop (fun q s' => ∃ i : Nat, q = g.ands.length - i ∧ i ≤ g.ands.length ∧ ∃ F oc kr, s' = nf 50 F oc [(2, .t (.i .i64 k)), (3, .ptr 3 1 0), (6, .ptr 6 1 0), (9, .ptr 9 1 0), (11, .t (.i .i64 i))] [(3, ⟨1, .cells 25 g.cells⟩), (6, ⟨1, .cells 55 [.t (.i .i64 0), .nilS, .nilS]⟩), (9, ⟨1, .cells 55 [.t (.i .i64 u.v), .row 901 n1, .row 902 n2]⟩), (901, ⟨n1, .rowA 103 1 (aC u.cls)⟩), (902, ⟨n2, .rowA 22 1 (rm ++ [[.row 10000 kr]])⟩), (10000, ⟨kr, .row 3 1 (iC (mk (firstN g + i) u.f))⟩)]) g.ands.length ?_ ?_
    · exact ⟨0, by omega, by omega, _, _, kk, nf_of rfl ⟨rfl, rfl, rfl, rfl, rfl, trivial⟩ ⟨hI.a, hb6, hc, hcl, hlt, hrw, trivial⟩⟩
    rintro q s' ⟨i, rfl, hi3, F, oc, kr, rfl⟩
    have hl1 : (iC (mk (firstN g + i) u.f)).length = firstN g + i := by rw [iC_len, mk_len]
    simp only [G.cells, iL, pL]
    repeat' first | refine c_seq ?_ | refine c_reg' rfl fun K hK => ?_ | (refine r_opN fun κ η => ?_; simp only [go_sem, Nat.reduceLT, Nat.reduceEqDiff, Nat.reduceAdd, Nat.reduceMul, Nat.reduceLeDiff, Nat.le_refl, reduceIte, reduceCtorEq]; (repeat refine ⟨by omega, ?_⟩); refine η _ ?_; clear η κ) | (refine r_nil (hK _ ?_); clear hK K) | refine q_seq ?_
    refine c_cond _ rfl (fun hq3 => ?_) (fun hq3 => ?_)
    · simp only [decide_eq_true_eq] at hq3
      have hs : iC (mk (firstN g + (i + 1)) u.f) = iC (mk (firstN g + i) u.f) ++ [[.i .i64 0]] := by
        rw [show firstN g + (i + 1) = firstN g + i + 1 by omega, mk_succ, iC_app, hf0 _ (by omega)]
        rfl
      repeat' first | refine c_seq ?_ | refine c_block ?_ | refine c_reg' rfl fun K hK => ?_ | refine c_draw' rfl (by kernel_rfl) fun K hK => ?_ | ((first | refine r_opN fun κ η => ?_ | refine d_opN (by kernel_rfl) fun κ η => ?_); simp only [go_sem, Nat.reduceLT, Nat.reduceEqDiff, Nat.reduceAdd, Nat.reduceMul, Nat.reduceLeDiff, Nat.le_refl, reduceIte, reduceCtorEq, hkt, hget, hset, hll]; (repeat refine ⟨by omega, ?_⟩); refine η _ ?_; clear η κ) | (refine r_nil (hK _ ?_); clear hK K) | refine q_seq ?_ | (refine d_nil (hK _ ?_); clear hK K) | refine q_blk ?_ | refine c_skip ?_ | refine q_lpN ?_
      exact ⟨g.ands.length - (i + 1), by omega, i + 1, rfl, by omega, _, _, _, nf_of rfl ⟨rfl, rfl, rfl, rfl, rfl, trivial⟩ ⟨rfl, rfl, rfl, rfl, rfl, by rw [hs]; rfl, trivial⟩⟩
    simp only [decide_eq_false_iff_not] at hq3
    obtain rfl : i = g.ands.length := by omega
    rw [hrm]
    repeat' first | refine c_seq ?_ | refine c_reg' rfl fun K hK => ?_ | (refine r_opN fun κ η => ?_; simp only [go_sem, Nat.reduceLT, Nat.reduceEqDiff, Nat.reduceAdd, Nat.reduceMul, Nat.reduceLeDiff, Nat.le_refl, reduceIte, reduceCtorEq]; refine η _ ?_; clear η κ) | (refine r_nil (hK _ ?_); clear hK K) | refine q_seq ?_ | refine c_exit ?_ | refine c_ret ?_ | refine q_seqE ?_ | refine q_blkHit ?_ | refine q_lpE ?_ | (refine q_ret ?_; refine q_rc ?_; simp only [go_sem, Nat.reduceLT, Nat.reduceEqDiff, Nat.reduceAdd, Nat.reduceMul, Nat.reduceLeDiff, Nat.le_refl, reduceIte, reduceCtorEq])
    unfold aC
    refine frzE_t0 _ (frzE_t _ ⟨rfl, ?_⟩)
    simp only [frz0, nf_o, lookO_cons, lookO_nil, Nat.reduceEqDiff, if_true, if_false, true_and]
    simp only [frzC0, frzE, Cn.t, cL, List.map_append, List.map_cons, List.map_nil, iL_eq, iC]
  · repeat' first | refine c_seq ?_ | refine c_block ?_ | refine c_reg' rfl fun K hK => ?_ | (refine r_opN fun κ η => ?_; simp only [go_sem, Nat.reduceLT, Nat.reduceEqDiff, Nat.reduceAdd, Nat.reduceMul, Nat.reduceLeDiff, Nat.le_refl, reduceIte, reduceCtorEq]; refine η _ ?_; clear η κ) | (refine r_nil (hK _ ?_); clear hK K) | refine q_seq ?_ | refine c_exit ?_ | refine q_seqE ?_ | refine q_blkHit ?_ | refine q_lpE ?_
    refine c_loop (fun q s' => ∃ i : Nat, q = g.ands.length - i ∧ i ≤ g.ands.length ∧ ∃ F oc kr, s' = nf 50 F oc [(2, .t (.i .i64 k)), (3, .ptr 3 1 0), (6, .ptr 6 1 0), (9, .ptr 9 1 0), (11, .t (.i .i64 i))] [(3, ⟨1, .cells 25 g.cells⟩), (6, ⟨1, .cells 55 [.t (.i .i64 0), .nilS, .nilS]⟩), (9, ⟨1, .cells 55 [.t (.i .i64 u.v), .row 901 n1, .row 902 n2]⟩), (901, ⟨n1, .rowA 103 1 (aC u.cls)⟩), (902, ⟨n2, .rowA 22 1 (rm ++ [[.row 10001 kr]])⟩), (10001, ⟨kr, .row 3 1 (iC (mk (firstN g + i) u.f))⟩)]) g.ands.length ?_ ?_
    · exact ⟨0, by omega, by omega, _, _, kk, nf_of rfl ⟨rfl, rfl, rfl, rfl, rfl, trivial⟩ ⟨hI.a, hb6, hc, hcl, hlt, hrw, trivial⟩⟩
    rintro q s' ⟨i, rfl, hi3, F, oc, kr, rfl⟩
    have hl1 : (iC (mk (firstN g + i) u.f)).length = firstN g + i := by rw [iC_len, mk_len]
    simp only [G.cells, iL, pL]
    repeat' first | refine c_seq ?_ | refine c_reg' rfl fun K hK => ?_ | (refine r_opN fun κ η => ?_; simp only [go_sem, Nat.reduceLT, Nat.reduceEqDiff, Nat.reduceAdd, Nat.reduceMul, Nat.reduceLeDiff, Nat.le_refl, reduceIte, reduceCtorEq]; (repeat refine ⟨by omega, ?_⟩); refine η _ ?_; clear η κ) | (refine r_nil (hK _ ?_); clear hK K) | refine q_seq ?_
    refine c_cond _ rfl (fun hq3 => ?_) (fun hq3 => ?_)
    · simp only [decide_eq_true_eq] at hq3
      have hs : iC (mk (firstN g + (i + 1)) u.f) = iC (mk (firstN g + i) u.f) ++ [[.i .i64 0]] := by
        rw [show firstN g + (i + 1) = firstN g + i + 1 by omega, mk_succ, iC_app, hf0 _ (by omega)]
        rfl
      repeat' first | refine c_seq ?_ | refine c_block ?_ | refine c_reg' rfl fun K hK => ?_ | refine c_draw' rfl (by kernel_rfl) fun K hK => ?_ | ((first | refine r_opN fun κ η => ?_ | refine d_opN (by kernel_rfl) fun κ η => ?_); simp only [go_sem, Nat.reduceLT, Nat.reduceEqDiff, Nat.reduceAdd, Nat.reduceMul, Nat.reduceLeDiff, Nat.le_refl, reduceIte, reduceCtorEq, hkt, hget, hset, hll]; (repeat refine ⟨by omega, ?_⟩); refine η _ ?_; clear η κ) | (refine r_nil (hK _ ?_); clear hK K) | refine q_seq ?_ | (refine d_nil (hK _ ?_); clear hK K) | refine q_blk ?_ | refine c_skip ?_ | refine q_lpN ?_
      exact ⟨g.ands.length - (i + 1), by omega, i + 1, rfl, by omega, _, _, _, nf_of rfl ⟨rfl, rfl, rfl, rfl, rfl, trivial⟩ ⟨rfl, rfl, rfl, rfl, rfl, by rw [hs]; rfl, trivial⟩⟩
    simp only [decide_eq_false_iff_not] at hq3
    obtain rfl : i = g.ands.length := by omega
    rw [hrm]
    repeat' first | refine c_seq ?_ | refine c_reg' rfl fun K hK => ?_ | (refine r_opN fun κ η => ?_; simp only [go_sem, Nat.reduceLT, Nat.reduceEqDiff, Nat.reduceAdd, Nat.reduceMul, Nat.reduceLeDiff, Nat.le_refl, reduceIte, reduceCtorEq]; refine η _ ?_; clear η κ) | (refine r_nil (hK _ ?_); clear hK K) | refine q_seq ?_ | refine c_exit ?_ | refine c_ret ?_ | refine q_seqE ?_ | refine q_blkHit ?_ | refine q_lpE ?_ | (refine q_ret ?_; refine q_rc ?_; simp only [go_sem, Nat.reduceLT, Nat.reduceEqDiff, Nat.reduceAdd, Nat.reduceMul, Nat.reduceLeDiff, Nat.le_refl, reduceIte, reduceCtorEq])
    unfold aC
    refine frzE_t0 _ (frzE_t _ ⟨rfl, ?_⟩)
    simp only [frz0, nf_o, lookO_cons, lookO_nil, Nat.reduceEqDiff, if_true, if_false, true_and]
    simp only [frzC0, frzE, Cn.t, cL, List.map_append, List.map_cons, List.map_nil, iL_eq, iC]
end Go.Proofs.Ytpbfkpdfodmcaaa
