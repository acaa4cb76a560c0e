import Derived.Test.YtpbfkpdfodmcaaaE6
namespace Go.Proofs.Ytpbfkpdfodmcaaa
open Go.RowKit
set_option maxRecDepth 100000
set_option linter.unusedSimpArgs false
variable (Hy : World → Prop)
attribute [local irreducible] runM runD cwp seqQ blkQ lpQ retQ
structure VI (g : G) (o : Nat → O) (g4 n : Nat) (acc : List Bool) (oc : Nat → O) : Prop where
  gb : oc 1004 = ⟨g4, .cells 25 g.cells⟩
  al : oc 1034 = ⟨n, .row 4 1 (bC acc)⟩
  fr : Fr 1000 o oc []
/-- a state that grows -/
def IsS2 (oc : Nat → O) (x : A) (st : List Bool) : Prop := (st = [] ∧ x = .nilS) ∨ ∃ m, x = .row 1095 m ∧ oc 1095 = ⟨m, .row 4 1 (bC st)⟩
set_option maxHeartbeats 8000000 in
theorem values19_cm (g : G) (begin : List Int) (state : List Bool) (seq : List (List Bool)) (o : Nat → O) (h : g.Small) (hb : begin.length ≤ 140737488355328) (hs : state.length ≤ 140737488355328) (hq : seq.length ≤ 140737488355328) (hi : ∀ l ∈ seq, l.length ≤ 140737488355328) :
    Cm Try.prog Hy 47 [.t g.t, .t (iL begin), .t (bL state), .t (sB seq)] o fun rs o' => ((valErr g begin state seq ≠ 0 ∧ rs = [.nilS, .t (.i .i64 (valErr g begin state seq))]) ∨ (valErr g begin state seq = 0 ∧ ∃ n, rs = [.row 1034 n, .t (.i .i64 0)] ∧ o' 1034 = ⟨n, .row 4 1 (bC (valL g begin state seq))⟩)) ∧ Fr 1000 o o' [] := by
  have hck := uncheck_ct Hy g begin seq.length h hb
  have hft := fits_ct Hy g begin state seq hb hs hq
  refine cm_of (cls := fun d => 1000 + d) tt_ok follows_ Try.func47 rfl (by decide) (Nat.le_of_ble_eq_true rfl) ?_
  rw [show Try.f47.ntmps = 99 from rfl, s0_nf]
  simp only [List.zipIdx_cons, List.zipIdx_nil, List.map_cons, List.map_nil, Nat.reduceAdd, G.t, iL, pL, bL, sB]
  repeat' first | refine c_seq ?_ | refine c_reg' rfl fun K hK => ?_ | (refine r_opN fun κ η => ?_; simp only [go_sem, Nat.reduceLT, Nat.reduceEqDiff, Nat.reduceAdd, Nat.reduceMul, Nat.reduceLeDiff, Nat.le_refl, reduceIte, reduceCtorEq]; refine η _ ?_; clear η κ) | (refine r_nil (hK _ ?_); clear hK K) | refine q_seq ?_
  refine r_opN fun κ η => ?_; simp only [go_sem, Nat.reduceLT, Nat.reduceEqDiff, Nat.reduceAdd, Nat.reduceMul, Nat.reduceLeDiff, Nat.le_refl, reduceIte, reduceCtorEq, G.t, iL, pL]; refine ⟨_, hck, ?_⟩; simp only [go_sem, Nat.reduceLT, Nat.reduceEqDiff, Nat.reduceAdd, Nat.reduceMul, Nat.reduceLeDiff, Nat.le_refl, reduceIte, reduceCtorEq, G.t, iL, pL]; refine η _ ?_; clear η κ
  repeat' first | refine c_seq ?_ | refine c_reg' rfl fun K hK => ?_ | (refine r_opN fun κ η => ?_; simp only [go_sem, Nat.reduceLT, Nat.reduceEqDiff, Nat.reduceAdd, Nat.reduceMul, Nat.reduceLeDiff, Nat.le_refl, reduceIte, reduceCtorEq]; refine η _ ?_; clear η κ) | (refine r_nil (hK _ ?_); clear hK K) | refine q_seq ?_
  refine c_cond _ rfl (fun hq1 => ?_) (fun hq1 => ?_)
  · simp only [Bool.not_eq_true', decide_eq_false_iff_not] at hq1
    repeat' first | refine c_seq ?_ | refine c_reg' rfl fun K hK => ?_ | (refine r_opN fun κ η => ?_; simp only [go_sem, Nat.reduceLT, Nat.reduceEqDiff, Nat.reduceAdd, Nat.reduceMul, Nat.reduceLeDiff, Nat.le_refl, reduceIte, reduceCtorEq]; refine η _ ?_; clear η κ) | (refine r_nil (hK _ ?_); clear hK K) | refine q_seq ?_ | refine c_ret ?_ | refine q_seqR ?_ | (refine q_ret ?_; refine q_r1 ?_; simp only [go_sem, Nat.reduceLT, Nat.reduceEqDiff, Nat.reduceAdd, Nat.reduceMul, Nat.reduceLeDiff, Nat.le_refl, reduceIte, reduceCtorEq])
    have e : valErr g begin state seq = unCheck g begin seq.length := if_pos hq1
    exact ⟨.inl ⟨by rw [e]; exact hq1, by rw [e]⟩, fr_nf rfl⟩
  simp only [Bool.not_eq_false', decide_eq_true_eq] at hq1
  obtain ⟨q1, q2, q3, q4, q5, q6⟩ := unCheck_ok hq1
  have hg := gok_of q1
  have hN := hg.hN
  have hNl := hg.le
  have hg0 := hg.i0
  have hbl4 : begin.length ≤ 4000 := by omega
  have e0 : valErr g begin state seq = if FitU g begin state seq then 0 else 11 := if_neg (not_not_intro hq1)
  by_cases hfit : ¬ FitU g begin state seq
  · rw [decide_eq_false hfit] at hft
    repeat' first | refine c_seq ?_ | refine c_reg' rfl fun K hK => ?_ | (refine r_opN fun κ η => ?_; simp only [go_sem, Nat.reduceLT, Nat.reduceEqDiff, Nat.reduceAdd, Nat.reduceMul, Nat.reduceLeDiff, Nat.le_refl, reduceIte, reduceCtorEq]; refine η _ ?_; clear η κ) | refine q_seq ?_ | refine c_skip ?_
    refine r_opN fun κ η => ?_; simp only [go_sem, Nat.reduceLT, Nat.reduceEqDiff, Nat.reduceAdd, Nat.reduceMul, Nat.reduceLeDiff, Nat.le_refl, reduceIte, reduceCtorEq, G.t, iL, pL, bL, sB]; refine ⟨_, hft, ?_⟩; simp only [go_sem, Nat.reduceLT, Nat.reduceEqDiff, Nat.reduceAdd, Nat.reduceMul, Nat.reduceLeDiff, Nat.le_refl, reduceIte, reduceCtorEq, G.t, iL, pL, bL, sB]; refine η _ ?_; clear η κ
    repeat' first | (refine r_opN fun κ η => ?_; simp only [go_sem, Nat.reduceLT, Nat.reduceEqDiff, Nat.reduceAdd, Nat.reduceMul, Nat.reduceLeDiff, Nat.le_refl, reduceIte, reduceCtorEq]; refine η _ ?_; clear η κ) | (refine r_nil (hK _ ?_); clear hK K) | refine q_seq ?_
    refine c_cond _ rfl (fun hq2 => ?_) (fun hq2 => (by cases hq2))
    repeat' first | refine c_seq ?_ | refine c_reg' rfl fun K hK => ?_ | (refine r_opN fun κ η => ?_; simp only [go_sem, Nat.reduceLT, Nat.reduceEqDiff, Nat.reduceAdd, Nat.reduceMul, Nat.reduceLeDiff, Nat.le_refl, reduceIte, reduceCtorEq]; refine η _ ?_; clear η κ) | (refine r_nil (hK _ ?_); clear hK K) | refine q_seq ?_ | refine c_ret ?_ | refine q_seqR ?_ | (refine q_ret ?_; refine q_r1 ?_; simp only [go_sem, Nat.reduceLT, Nat.reduceEqDiff, Nat.reduceAdd, Nat.reduceMul, Nat.reduceLeDiff, Nat.le_refl, reduceIte, reduceCtorEq])
    rw [if_neg hfit] at e0
    exact ⟨.inl ⟨by rw [e0]; decide, by rw [e0]⟩, fr_nf rfl⟩
  replace hfit := Classical.not_not.1 hfit
  rw [decide_eq_true hfit] at hft
  rw [if_pos hfit] at e0
  obtain ⟨f1, f2, f3⟩ := hfit
  repeat' first | refine c_seq ?_ | refine c_reg' rfl fun K hK => ?_ | (refine r_opN fun κ η => ?_; simp only [go_sem, Nat.reduceLT, Nat.reduceEqDiff, Nat.reduceAdd, Nat.reduceMul, Nat.reduceLeDiff, Nat.le_refl, reduceIte, reduceCtorEq]; refine η _ ?_; clear η κ) | refine q_seq ?_ | refine c_skip ?_
  refine r_opN fun κ η => ?_; simp only [go_sem, Nat.reduceLT, Nat.reduceEqDiff, Nat.reduceAdd, Nat.reduceMul, Nat.reduceLeDiff, Nat.le_refl, reduceIte, reduceCtorEq, G.t, iL, pL, bL, sB]; refine ⟨_, hft, ?_⟩; simp only [go_sem, Nat.reduceLT, Nat.reduceEqDiff, Nat.reduceAdd, Nat.reduceMul, Nat.reduceLeDiff, Nat.le_refl, reduceIte, reduceCtorEq, G.t, iL, pL, bL, sB]; refine η _ ?_; clear η κ
  repeat' first | (refine r_opN fun κ η => ?_; simp only [go_sem, Nat.reduceLT, Nat.reduceEqDiff, Nat.reduceAdd, Nat.reduceMul, Nat.reduceLeDiff, Nat.le_refl, reduceIte, reduceCtorEq]; refine η _ ?_; clear η κ) | (refine r_nil (hK _ ?_); clear hK K) | refine q_seq ?_
  refine c_cond _ rfl (fun hq2 => (by cases hq2)) (fun hq2 => ?_)
  repeat' first | refine c_seq ?_ | refine c_block ?_ | refine c_reg' rfl fun K hK => ?_ | (refine r_opN fun κ η => ?_; simp only [go_sem, Nat.reduceLT, Nat.reduceEqDiff, Nat.reduceAdd, Nat.reduceMul, Nat.reduceLeDiff, Nat.le_refl, reduceIte, reduceCtorEq]; refine η _ ?_; clear η κ) | (refine r_nil (hK _ ?_); clear hK K) | refine q_seq ?_ | refine c_skip ?_
  refine c_loop (fun m s' => ∃ i : Nat, m = begin.length - i ∧ i ≤ begin.length ∧ ∃ F oc n, s' = nf 99 F oc [(2, .t (bL state)), (3, .t (sB seq)), (4, .ptr 1004 ((o 1004).gen + 1) 0), (11, .row 1034 n), (35, .t (iL begin)), (36, .t (.i .i64 begin.length)), (37, .t (.i .i64 i))] [] ∧ VI g o ((o 1004).gen + 1) n (true :: eithS (begin.take i) (state.take i)) oc) begin.length ?_ ?_
  · exact ⟨0, by omega, by omega, _, _, _, nf_of rfl ⟨rfl, rfl, rfl, rfl, rfl, rfl, rfl, trivial⟩ trivial, ⟨rfl, rfl, fr_nf rfl⟩⟩
  rintro m s' ⟨i, rfl, hii, F, oc, n, rfl, hI⟩
  have hal := hI.al
  simp only [iL, bL]
  repeat' first | refine c_seq ?_ | refine c_reg' rfl fun K hK => ?_ | (refine r_opN fun κ η => ?_; simp only [go_sem, Nat.reduceLT, Nat.reduceEqDiff, Nat.reduceAdd, Nat.reduceMul, Nat.reduceLeDiff, Nat.le_refl, reduceIte, reduceCtorEq]; refine η _ ?_; clear η κ) | (refine r_nil (hK _ ?_); clear hK K) | refine q_seq ?_
  refine c_cond _ rfl (fun hq3 => ?_) (fun hq3 => ?_)
  · simp only [decide_eq_true_eq] at hq3
    obtain ⟨b, hbb⟩ : ∃ x, begin[i]? = some x := ⟨_, List.getElem?_eq_getElem (by omega)⟩
    obtain ⟨x, hx⟩ : ∃ x, state[i]? = some x := ⟨_, List.getElem?_eq_getElem (by omega)⟩
    have he := eithS_take hbb hx
    have hle := eithS_len (begin.take i) (state.take i)
    rw [List.length_take] at hle
    have hbl : (bC (true :: eithS (begin.take i) (state.take i))).length = (eithS (begin.take i) (state.take i)).length + 1 := bC_len _
    repeat' first | refine c_seq ?_ | refine c_block ?_ | refine c_reg' rfl fun K hK => ?_ | (refine r_opN fun κ η => ?_; simp only [go_sem, Nat.reduceLT, Nat.reduceEqDiff, Nat.reduceAdd, Nat.reduceMul, Nat.reduceLeDiff, Nat.le_refl, reduceIte, reduceCtorEq, hbb]; (repeat refine ⟨by omega, ?_⟩); refine η _ ?_; clear η κ) | (refine r_nil (hK _ ?_); clear hK K) | refine q_seq ?_ | refine c_skip ?_
    refine c_cond _ rfl (fun hq4 => ?_) (fun hq4 => ?_)
    · simp only [decide_eq_true_eq] at hq4
      rw [if_pos hq4] at he
      repeat' first | refine c_reg' rfl fun K hK => ?_ | (refine r_opN fun κ η => ?_; simp only [go_sem, Nat.reduceLT, Nat.reduceEqDiff, Nat.reduceAdd, Nat.reduceMul, Nat.reduceLeDiff, Nat.le_refl, reduceIte, reduceCtorEq, hx, hal, hbl]; (repeat refine ⟨by omega, ?_⟩); refine η _ ?_; clear η κ) | (refine r_nil (hK _ ?_); clear hK K) | refine q_seq ?_ | refine q_blk ?_ | refine q_lpN ?_
      exact ⟨begin.length - (i + 1), by omega, i + 1, rfl, by omega, _, _, _, nf_of rfl ⟨rfl, rfl, rfl, rfl, rfl, rfl, rfl, trivial⟩ trivial, ⟨hI.gb, by rw [he]; exact congrArg (fun l => (⟨_, .row 4 1 l⟩ : O)) (by simp [bC]), hI.fr.trans (fr_nf rfl) (Nat.le_refl _)⟩⟩
    · simp only [decide_eq_false_iff_not] at hq4
      rw [if_neg hq4, List.append_nil] at he
      repeat' first | refine c_reg' rfl fun K hK => ?_ | (refine r_opN fun κ η => ?_; simp only [go_sem, Nat.reduceLT, Nat.reduceEqDiff, Nat.reduceAdd, Nat.reduceMul, Nat.reduceLeDiff, Nat.le_refl, reduceIte, reduceCtorEq]; (repeat refine ⟨by omega, ?_⟩); refine η _ ?_; clear η κ) | (refine r_nil (hK _ ?_); clear hK K) | refine q_seq ?_ | refine q_blk ?_ | refine c_skip ?_ | refine q_lpN ?_
      exact ⟨begin.length - (i + 1), by omega, i + 1, rfl, by omega, _, _, n, nf_of rfl ⟨rfl, rfl, rfl, rfl, rfl, rfl, rfl, trivial⟩ trivial, ⟨hI.gb, by rw [he]; exact hI.al, hI.fr⟩⟩
  simp only [decide_eq_false_iff_not] at hq3
  obtain rfl : i = begin.length := by omega
  rw [List.take_length, ← f1, List.take_length] at hI
  clear hq3 hal
  have hel := eithS_len begin state
  repeat' first | refine c_seq ?_ | refine c_block ?_ | refine c_reg' rfl fun K hK => ?_ | (refine r_opN fun κ η => ?_; simp only [go_sem, Nat.reduceLT, Nat.reduceEqDiff, Nat.reduceAdd, Nat.reduceMul, Nat.reduceLeDiff, Nat.le_refl, reduceIte, reduceCtorEq]; refine η _ ?_; clear η κ) | (refine r_nil (hK _ ?_); clear hK K) | refine q_seq ?_ | refine c_exit ?_ | refine q_seqE ?_ | refine q_blkHit ?_ | refine q_lpE ?_
  refine c_loop (fun m s' => ∃ k : Nat, m = seq.length - k ∧ k ≤ seq.length ∧ ∃ F oc n x, s' = nf 99 F oc [(2, x), (4, .ptr 1004 ((o 1004).gen + 1) 0), (11, .row 1034 n), (52, .t (sB seq)), (53, .t (.i .i64 seq.length)), (54, .t (.i .i64 k))] [] ∧ VI g o ((o 1004).gen + 1) n (true :: (eithS begin state ++ runB g state (seq.take k))) oc ∧ IsSt oc x (stB g state (seq.take k))) seq.length ?_ ?_
  · refine ⟨0, by omega, by omega, _, _, n, _, nf_of rfl ⟨rfl, rfl, rfl, rfl, rfl, rfl, trivial⟩ trivial, ⟨hI.gb, ?_, hI.fr⟩, .inl rfl⟩
    exact hI.al.trans (by rw [show eithS begin state ++ runB g state (seq.take 0) = eithS begin state from List.append_nil _])
  clear hI
  rintro m s' ⟨k, rfl, hk, F, oc, n, x, rfl, hI, hst⟩
  have hal := hI.al
  have hgb := hI.gb
  simp only [sB, G.cells] at hgb ⊢
  repeat' first | refine c_seq ?_ | refine c_reg' rfl fun K hK => ?_ | (refine r_opN fun κ η => ?_; simp only [go_sem, Nat.reduceLT, Nat.reduceEqDiff, Nat.reduceAdd, Nat.reduceMul, Nat.reduceLeDiff, Nat.le_refl, reduceIte, reduceCtorEq]; refine η _ ?_; clear η κ) | (refine r_nil (hK _ ?_); clear hK K) | refine q_seq ?_
  refine c_cond _ rfl (fun hq3 => ?_) (fun hq3 => ?_)
  · simp only [decide_eq_true_eq] at hq3
    obtain ⟨l, hl⟩ : ∃ x, seq[k]? = some x := ⟨_, List.getElem?_eq_getElem (by omega)⟩
    have hll := f3 l (List.mem_of_getElem? hl)
    have hsl := stB_len g (seq.take k) state (by omega)
    have htk : seq.take (k + 1) = seq.take k ++ [l] := by rw [List.take_add_one, hl]; rfl
    have hgo := valuesR_good (g := g) (state := stB g state (seq.take k)) (ins := l) ⟨q1, hsl, hll⟩
    have hvc := values_ct Hy g (stB g state (seq.take k)) l h (by have := h.n; omega) (hi l (List.mem_of_getElem? hl))
    rw [hgo] at hvc
    have hrl := runB_len g (vals_drop g) (seq.take k) state (by omega) (fun l hl => f3 l (List.mem_of_mem_take hl))
    have snoc := runB_snoc g (seq.take k) state l
    have st2 : stB g state (seq.take (k + 1)) = nextV g (valsG g (stB g state (seq.take k)) l) := by rw [htk, stB_snoc]
    rw [← htk] at snoc
    rw [List.length_take, Nat.min_eq_left (by omega)] at hrl
    clear htk
    generalize stB g state (seq.take k) = st at *
    generalize runB g state (seq.take k) = rb at *
    have hle8 : l.length ≤ 4000 := by omega
    have hm := mul_in (k := (k : Int)) (q := g.ins + g.ands.length) (by omega) (by omega)
    have hfN : (firstN g : Int) = 1 + g.ins + g.next.length := by unfold firstN; omega
    have hvl : (valsG g st l).length = firstN g + g.ands.length := by
      rw [valsG, vals_len, List.length_cons, List.length_append]
      omega
    generalize hvv : valsG g st l = vs at *
    have hz1 := bC_one l
    have hz2 := bC_one vs
    have hz3 := bC_one (vs.drop (firstN g))
    have hacc : (bC (true :: (eithS begin state ++ rb))).length = (eithS begin state).length + rb.length + 1 := by rw [bC_len, List.length_cons, List.length_append]
    have hbv : (bC vs).length = firstN g + g.ands.length := by rw [bC_len, hvl]
    have hbd : (bC (vs.drop (firstN g))).length = g.ands.length := by rw [bC_len, List.length_drop, hvl]; omega
    have hfi : (1 + g.ins + (g.next.length : Int)).toNat = firstN g := by omega
    have hdr : ((bC vs).drop (firstN g)).take ((((firstN g + g.ands.length : Nat) : Int) - (1 + g.ins + (g.next.length : Int))).toNat) = bC (vs.drop (firstN g)) := by
      rw [List.take_of_length_le (by rw [List.length_drop, hbv]; omega)]
      simp [bC, List.map_drop]
    have hll2 : (bC l).length = l.length := bC_len l
    have hap : ∀ n1, (⟨n1, .row 4 1 (bC (true :: (eithS begin state ++ rb)) ++ bC l ++ bC (vs.drop (firstN g)))⟩ : O) = ⟨n1, .row 4 1 (bC (true :: (eithS begin state ++ runB g state (seq.take (k + 1)))))⟩ := fun n1 => by
      rw [snoc]
      simp [bC]
    rcases hst with rfl | ⟨rfl, rfl⟩ | ⟨m, rfl, hm2⟩
    · skip
      repeat' first | refine c_seq ?_ | refine c_block ?_ | refine c_reg' rfl fun K hK => ?_ | (refine r_opN fun κ η => ?_; simp only [go_sem, Nat.reduceLT, Nat.reduceEqDiff, Nat.reduceAdd, Nat.reduceMul, Nat.reduceLeDiff, Nat.le_refl, reduceIte, reduceCtorEq, hl, hgb]; (repeat refine ⟨by omega, ?_⟩); refine η _ ?_; clear η κ) | (refine r_nil (hK _ ?_); clear hK K) | refine q_seq ?_ | refine c_skip ?_
      refine r_opN fun κ η => ?_; simp only [go_sem, Nat.reduceLT, Nat.reduceEqDiff, Nat.reduceAdd, Nat.reduceMul, Nat.reduceLeDiff, Nat.le_refl, reduceIte, reduceCtorEq, G.t, iL, pL, bL_eq]; refine ⟨_, hvc, ?_⟩; simp only [go_sem, Nat.reduceLT, Nat.reduceEqDiff, Nat.reduceAdd, Nat.reduceMul, Nat.reduceLeDiff, Nat.le_refl, reduceIte, reduceCtorEq, G.t, iL, pL, bL_eq]; refine η _ ?_; clear η κ
      repeat' first | refine c_seq ?_ | refine c_reg' rfl fun K hK => ?_ | (refine r_opN fun κ η => ?_; simp only [go_sem, Nat.reduceLT, Nat.reduceEqDiff, Nat.reduceAdd, Nat.reduceMul, Nat.reduceLeDiff, Nat.le_refl, reduceIte, reduceCtorEq]; refine η _ ?_; clear η κ) | (refine r_nil (hK _ ?_); clear hK K) | refine q_seq ?_
      refine c_cond _ rfl (fun hq => (by cases hq)) (fun hq => ?_)
      repeat' first | refine c_seq ?_ | refine c_reg' rfl fun K hK => ?_ | (refine r_opN fun κ η => ?_; simp only [go_sem, Nat.reduceLT, Nat.reduceEqDiff, Nat.reduceAdd, Nat.reduceMul, Nat.reduceLeDiff, Nat.le_refl, reduceIte, reduceCtorEq, bL_eq, hal, hacc, hll2, hgb]; (repeat refine ⟨by omega, ?_⟩); refine η _ ?_; clear η κ) | (refine r_nil (hK _ ?_); clear hK K) | refine q_seq ?_ | refine c_skip ?_
      refine r_opN fun κ η => ?_; simp only [go_sem, Nat.reduceLT, Nat.reduceEqDiff, Nat.reduceAdd, Nat.reduceMul, Nat.reduceLeDiff, Nat.le_refl, reduceIte, reduceCtorEq, G.t, iL, pL, bL_eq]; refine ⟨_, cfirst_ct Hy g (by omega), ?_⟩; simp only [go_sem, Nat.reduceLT, Nat.reduceEqDiff, Nat.reduceAdd, Nat.reduceMul, Nat.reduceLeDiff, Nat.le_refl, reduceIte, reduceCtorEq, G.t, iL, pL, bL_eq]; refine η _ ?_; clear η κ
      repeat' first | refine c_seq ?_ | refine c_block ?_ | refine c_reg' rfl fun K hK => ?_ | (refine r_opN fun κ η => ?_; simp only [go_sem, Nat.reduceLT, Nat.reduceEqDiff, Nat.reduceAdd, Nat.reduceMul, Nat.reduceLeDiff, Nat.le_refl, reduceIte, reduceCtorEq, bL_eq, hal, hacc, hll2, hgb, hbv, hfi, hdr, hbd, List.length_append]; (repeat refine ⟨by omega, ?_⟩); refine η _ ?_; clear η κ) | (refine r_nil (hK _ ?_); clear hK K) | refine q_seq ?_
      refine c_loop (fun m s' => ∃ j : Nat, m = g.next.length - j ∧ j ≤ g.next.length ∧ ∃ F oc n x, s' = nf 99 F oc [(2, x), (4, .ptr 1004 ((o 1004).gen + 1) 0), (11, .row 1034 n), (16, .t (bL vs)), (52, .t (sB seq)), (53, .t (.i .i64 seq.length)), (54, .t (.i .i64 k)), (78, .t (iL g.next)), (79, .t (.i .i64 g.next.length)), (80, .t (.i .i64 j))] [] ∧ VI g o ((o 1004).gen + 1) n (true :: (eithS begin state ++ runB g state (seq.take (k + 1)))) oc ∧ IsS2 oc x ((g.next.take j).map (litV vs))) g.next.length ?_ ?_
      · exact ⟨0, by omega, by omega, _, _, _, _, nf_of rfl ⟨rfl, rfl, rfl, rfl, rfl, rfl, rfl, rfl, rfl, rfl, trivial⟩ trivial, ⟨hI.gb, hap _, hI.fr.trans (fr_nf rfl) (Nat.le_refl _)⟩, .inl ⟨rfl, rfl⟩⟩
      rintro m1 s1 ⟨j, rfl, hj, F1, oc1, n1, x1, rfl, hI1, hst1⟩
      simp only [iL]
      repeat' first | refine c_seq ?_ | refine c_reg' rfl fun K hK => ?_ | (refine r_opN fun κ η => ?_; simp only [go_sem, Nat.reduceLT, Nat.reduceEqDiff, Nat.reduceAdd, Nat.reduceMul, Nat.reduceLeDiff, Nat.le_refl, reduceIte, reduceCtorEq]; refine η _ ?_; clear η κ) | (refine r_nil (hK _ ?_); clear hK K) | refine q_seq ?_
      refine c_cond _ rfl (fun hq5 => ?_) (fun hq5 => ?_)
      · simp only [decide_eq_true_eq] at hq5
        obtain ⟨y, hy⟩ : ∃ y, g.next[j]? = some y := ⟨_, List.getElem?_eq_getElem (by omega)⟩
        obtain ⟨p1, p2, p3⟩ := hg.nx y (List.mem_of_getElem? hy)
        obtain ⟨b, hb⟩ : ∃ b, vs[(y / 2).toNat]? = some b := ⟨_, List.getElem?_eq_getElem (by rw [hvl]; omega)⟩
        have hgb2 := bC_get hb
        have hsn : (g.next.take (j + 1)).map (litV vs) = (g.next.take j).map (litV vs) ++ [b != decide (y % 2 = 1)] := by
          rw [List.take_add_one, hy, List.map_append]
          show _ ++ [litV vs y] = _
          rw [litV, List.getD_eq_getElem?_getD, hb]
          rfl
        have hst3 : (bC ((g.next.take j).map (litV vs))).length = j := by rw [bC_len, List.length_map, List.length_take]; omega
        rcases hst1 with ⟨h0, rfl⟩ | ⟨m2, rfl, hm2⟩
        · repeat' first | refine c_seq ?_ | refine c_block ?_ | refine c_reg' rfl fun K hK => ?_ | (refine r_opN fun κ η => ?_; simp only [go_sem, Nat.reduceLT, Nat.reduceEqDiff, Nat.reduceAdd, Nat.reduceMul, Nat.reduceLeDiff, Nat.le_refl, reduceIte, reduceCtorEq, hy, bL_eq, hgb2, hbv, Int.tdiv_eq_ediv_of_nonneg p1, Int.tmod_eq_emod_of_nonneg p1]; (repeat refine ⟨by omega, ?_⟩); refine η _ ?_; clear η κ) | (refine r_nil (hK _ ?_); clear hK K) | refine q_seq ?_ | refine q_blk ?_ | refine c_skip ?_ | refine q_lpN ?_
          refine ⟨g.next.length - (j + 1), by omega, j + 1, by omega, by omega, _, _, n1, _, nf_of rfl ⟨rfl, rfl, rfl, rfl, rfl, rfl, rfl, rfl, rfl, rfl, trivial⟩ trivial, ⟨hI1.gb, hI1.al, hI1.fr.trans (fr_nf rfl) (Nat.le_refl _)⟩, .inr ⟨_, rfl, ?_⟩⟩
          rw [hsn, h0]
          rfl
        · repeat' first | refine c_seq ?_ | refine c_block ?_ | refine c_reg' rfl fun K hK => ?_ | (refine r_opN fun κ η => ?_; simp only [go_sem, Nat.reduceLT, Nat.reduceEqDiff, Nat.reduceAdd, Nat.reduceMul, Nat.reduceLeDiff, Nat.le_refl, reduceIte, reduceCtorEq, hy, bL_eq, hgb2, hbv, hm2, hst3, Int.tdiv_eq_ediv_of_nonneg p1, Int.tmod_eq_emod_of_nonneg p1]; (repeat refine ⟨by omega, ?_⟩); refine η _ ?_; clear η κ) | (refine r_nil (hK _ ?_); clear hK K) | refine q_seq ?_ | refine q_blk ?_ | refine c_skip ?_ | refine q_lpN ?_
          refine ⟨g.next.length - (j + 1), by omega, j + 1, by omega, by omega, _, _, n1, _, nf_of rfl ⟨rfl, rfl, rfl, rfl, rfl, rfl, rfl, rfl, rfl, rfl, trivial⟩ trivial, ⟨hI1.gb, hI1.al, hI1.fr.trans (fr_nf rfl) (Nat.le_refl _)⟩, .inr ⟨_, rfl, ?_⟩⟩
          rw [hsn]
          exact congrArg (fun l => (⟨_, .row 4 1 l⟩ : O)) (by simp [bC])
      · simp only [decide_eq_false_iff_not] at hq5
        obtain rfl : j = g.next.length := by omega
        rw [List.take_length] at hst1
        repeat' first | refine c_reg' rfl fun K hK => ?_ | (refine r_opN fun κ η => ?_; simp only [go_sem, Nat.reduceLT, Nat.reduceEqDiff, Nat.reduceAdd, Nat.reduceMul, Nat.reduceLeDiff, Nat.le_refl, reduceIte, reduceCtorEq]; (repeat refine ⟨by omega, ?_⟩); refine η _ ?_; clear η κ) | (refine r_nil (hK _ ?_); clear hK K) | refine q_seq ?_ | refine q_blk ?_ | refine c_exit ?_ | refine q_seqE ?_ | refine q_blkHit ?_ | refine q_lpE ?_ | refine q_lpN ?_
        refine ⟨seq.length - (k + 1), by omega, k + 1, rfl, by omega, _, _, n1, x1, nf_of rfl ⟨rfl, rfl, rfl, rfl, rfl, rfl, trivial⟩ trivial, hI1, ?_⟩
        rw [st2]
        exact .inr hst1
    · skip
      repeat' first | refine c_seq ?_ | refine c_block ?_ | refine c_reg' rfl fun K hK => ?_ | (refine r_opN fun κ η => ?_; simp only [go_sem, Nat.reduceLT, Nat.reduceEqDiff, Nat.reduceAdd, Nat.reduceMul, Nat.reduceLeDiff, Nat.le_refl, reduceIte, reduceCtorEq, hl, hgb]; (repeat refine ⟨by omega, ?_⟩); refine η _ ?_; clear η κ) | (refine r_nil (hK _ ?_); clear hK K) | refine q_seq ?_ | refine c_skip ?_
      refine r_opN fun κ η => ?_; simp only [go_sem, Nat.reduceLT, Nat.reduceEqDiff, Nat.reduceAdd, Nat.reduceMul, Nat.reduceLeDiff, Nat.le_refl, reduceIte, reduceCtorEq, G.t, iL, pL, bL_eq]; refine ⟨_, hvc, ?_⟩; simp only [go_sem, Nat.reduceLT, Nat.reduceEqDiff, Nat.reduceAdd, Nat.reduceMul, Nat.reduceLeDiff, Nat.le_refl, reduceIte, reduceCtorEq, G.t, iL, pL, bL_eq]; refine η _ ?_; clear η κ
      repeat' first | refine c_seq ?_ | refine c_reg' rfl fun K hK => ?_ | (refine r_opN fun κ η => ?_; simp only [go_sem, Nat.reduceLT, Nat.reduceEqDiff, Nat.reduceAdd, Nat.reduceMul, Nat.reduceLeDiff, Nat.le_refl, reduceIte, reduceCtorEq]; refine η _ ?_; clear η κ) | (refine r_nil (hK _ ?_); clear hK K) | refine q_seq ?_
      refine c_cond _ rfl (fun hq => (by cases hq)) (fun hq => ?_)
      repeat' first | refine c_seq ?_ | refine c_reg' rfl fun K hK => ?_ | (refine r_opN fun κ η => ?_; simp only [go_sem, Nat.reduceLT, Nat.reduceEqDiff, Nat.reduceAdd, Nat.reduceMul, Nat.reduceLeDiff, Nat.le_refl, reduceIte, reduceCtorEq, bL_eq, hal, hacc, hll2, hgb]; (repeat refine ⟨by omega, ?_⟩); refine η _ ?_; clear η κ) | (refine r_nil (hK _ ?_); clear hK K) | refine q_seq ?_ | refine c_skip ?_
      refine r_opN fun κ η => ?_; simp only [go_sem, Nat.reduceLT, Nat.reduceEqDiff, Nat.reduceAdd, Nat.reduceMul, Nat.reduceLeDiff, Nat.le_refl, reduceIte, reduceCtorEq, G.t, iL, pL, bL_eq]; refine ⟨_, cfirst_ct Hy g (by omega), ?_⟩; simp only [go_sem, Nat.reduceLT, Nat.reduceEqDiff, Nat.reduceAdd, Nat.reduceMul, Nat.reduceLeDiff, Nat.le_refl, reduceIte, reduceCtorEq, G.t, iL, pL, bL_eq]; refine η _ ?_; clear η κ
      repeat' first | refine c_seq ?_ | refine c_block ?_ | refine c_reg' rfl fun K hK => ?_ | (refine r_opN fun κ η => ?_; simp only [go_sem, Nat.reduceLT, Nat.reduceEqDiff, Nat.reduceAdd, Nat.reduceMul, Nat.reduceLeDiff, Nat.le_refl, reduceIte, reduceCtorEq, bL_eq, hal, hacc, hll2, hgb, hbv, hfi, hdr, hbd, List.length_append]; (repeat refine ⟨by omega, ?_⟩); refine η _ ?_; clear η κ) | (refine r_nil (hK _ ?_); clear hK K) | refine q_seq ?_
      refine c_loop (fun m s' => ∃ j : Nat, m = g.next.length - j ∧ j ≤ g.next.length ∧ ∃ F oc n x, s' = nf 99 F oc [(2, x), (4, .ptr 1004 ((o 1004).gen + 1) 0), (11, .row 1034 n), (16, .t (bL vs)), (52, .t (sB seq)), (53, .t (.i .i64 seq.length)), (54, .t (.i .i64 k)), (78, .t (iL g.next)), (79, .t (.i .i64 g.next.length)), (80, .t (.i .i64 j))] [] ∧ VI g o ((o 1004).gen + 1) n (true :: (eithS begin state ++ runB g state (seq.take (k + 1)))) oc ∧ IsS2 oc x ((g.next.take j).map (litV vs))) g.next.length ?_ ?_
      · exact ⟨0, by omega, by omega, _, _, _, _, nf_of rfl ⟨rfl, rfl, rfl, rfl, rfl, rfl, rfl, rfl, rfl, rfl, trivial⟩ trivial, ⟨hI.gb, hap _, hI.fr.trans (fr_nf rfl) (Nat.le_refl _)⟩, .inl ⟨rfl, rfl⟩⟩
      rintro m1 s1 ⟨j, rfl, hj, F1, oc1, n1, x1, rfl, hI1, hst1⟩
      simp only [iL]
      repeat' first | refine c_seq ?_ | refine c_reg' rfl fun K hK => ?_ | (refine r_opN fun κ η => ?_; simp only [go_sem, Nat.reduceLT, Nat.reduceEqDiff, Nat.reduceAdd, Nat.reduceMul, Nat.reduceLeDiff, Nat.le_refl, reduceIte, reduceCtorEq]; refine η _ ?_; clear η κ) | (refine r_nil (hK _ ?_); clear hK K) | refine q_seq ?_
      refine c_cond _ rfl (fun hq5 => ?_) (fun hq5 => ?_)
      · simp only [decide_eq_true_eq] at hq5
        obtain ⟨y, hy⟩ : ∃ y, g.next[j]? = some y := ⟨_, List.getElem?_eq_getElem (by omega)⟩
        obtain ⟨p1, p2, p3⟩ := hg.nx y (List.mem_of_getElem? hy)
        obtain ⟨b, hb⟩ : ∃ b, vs[(y / 2).toNat]? = some b := ⟨_, List.getElem?_eq_getElem (by rw [hvl]; omega)⟩
        have hgb2 := bC_get hb
        have hsn : (g.next.take (j + 1)).map (litV vs) = (g.next.take j).map (litV vs) ++ [b != decide (y % 2 = 1)] := by
          rw [List.take_add_one, hy, List.map_append]
          show _ ++ [litV vs y] = _
          rw [litV, List.getD_eq_getElem?_getD, hb]
          rfl
        have hst3 : (bC ((g.next.take j).map (litV vs))).length = j := by rw [bC_len, List.length_map, List.length_take]; omega
        rcases hst1 with ⟨h0, rfl⟩ | ⟨m2, rfl, hm2⟩
        · repeat' first | refine c_seq ?_ | refine c_block ?_ | refine c_reg' rfl fun K hK => ?_ | (refine r_opN fun κ η => ?_; simp only [go_sem, Nat.reduceLT, Nat.reduceEqDiff, Nat.reduceAdd, Nat.reduceMul, Nat.reduceLeDiff, Nat.le_refl, reduceIte, reduceCtorEq, hy, bL_eq, hgb2, hbv, Int.tdiv_eq_ediv_of_nonneg p1, Int.tmod_eq_emod_of_nonneg p1]; (repeat refine ⟨by omega, ?_⟩); refine η _ ?_; clear η κ) | (refine r_nil (hK _ ?_); clear hK K) | refine q_seq ?_ | refine q_blk ?_ | refine c_skip ?_ | refine q_lpN ?_
          refine ⟨g.next.length - (j + 1), by omega, j + 1, by omega, by omega, _, _, n1, _, nf_of rfl ⟨rfl, rfl, rfl, rfl, rfl, rfl, rfl, rfl, rfl, rfl, trivial⟩ trivial, ⟨hI1.gb, hI1.al, hI1.fr.trans (fr_nf rfl) (Nat.le_refl _)⟩, .inr ⟨_, rfl, ?_⟩⟩
          rw [hsn, h0]
          rfl
        · repeat' first | refine c_seq ?_ | refine c_block ?_ | refine c_reg' rfl fun K hK => ?_ | (refine r_opN fun κ η => ?_; simp only [go_sem, Nat.reduceLT, Nat.reduceEqDiff, Nat.reduceAdd, Nat.reduceMul, Nat.reduceLeDiff, Nat.le_refl, reduceIte, reduceCtorEq, hy, bL_eq, hgb2, hbv, hm2, hst3, Int.tdiv_eq_ediv_of_nonneg p1, Int.tmod_eq_emod_of_nonneg p1]; (repeat refine ⟨by omega, ?_⟩); refine η _ ?_; clear η κ) | (refine r_nil (hK _ ?_); clear hK K) | refine q_seq ?_ | refine q_blk ?_ | refine c_skip ?_ | refine q_lpN ?_
          refine ⟨g.next.length - (j + 1), by omega, j + 1, by omega, by omega, _, _, n1, _, nf_of rfl ⟨rfl, rfl, rfl, rfl, rfl, rfl, rfl, rfl, rfl, rfl, trivial⟩ trivial, ⟨hI1.gb, hI1.al, hI1.fr.trans (fr_nf rfl) (Nat.le_refl _)⟩, .inr ⟨_, rfl, ?_⟩⟩
          rw [hsn]
          exact congrArg (fun l => (⟨_, .row 4 1 l⟩ : O)) (by simp [bC])
      · simp only [decide_eq_false_iff_not] at hq5
        obtain rfl : j = g.next.length := by omega
        rw [List.take_length] at hst1
        repeat' first | refine c_reg' rfl fun K hK => ?_ | (refine r_opN fun κ η => ?_; simp only [go_sem, Nat.reduceLT, Nat.reduceEqDiff, Nat.reduceAdd, Nat.reduceMul, Nat.reduceLeDiff, Nat.le_refl, reduceIte, reduceCtorEq]; (repeat refine ⟨by omega, ?_⟩); refine η _ ?_; clear η κ) | (refine r_nil (hK _ ?_); clear hK K) | refine q_seq ?_ | refine q_blk ?_ | refine c_exit ?_ | refine q_seqE ?_ | refine q_blkHit ?_ | refine q_lpE ?_ | refine q_lpN ?_
        refine ⟨seq.length - (k + 1), by omega, k + 1, rfl, by omega, _, _, n1, x1, nf_of rfl ⟨rfl, rfl, rfl, rfl, rfl, rfl, trivial⟩ trivial, hI1, ?_⟩
        rw [st2]
        exact .inr hst1
    · skip
      repeat' first | refine c_seq ?_ | refine c_block ?_ | refine c_reg' rfl fun K hK => ?_ | (refine r_opN fun κ η => ?_; simp only [go_sem, Nat.reduceLT, Nat.reduceEqDiff, Nat.reduceAdd, Nat.reduceMul, Nat.reduceLeDiff, Nat.le_refl, reduceIte, reduceCtorEq, hl, hgb]; (repeat refine ⟨by omega, ?_⟩); refine η _ ?_; clear η κ) | (refine r_nil (hK _ ?_); clear hK K) | refine q_seq ?_ | refine c_skip ?_
      refine r_opN fun κ η => ?_; simp only [go_sem, Nat.reduceLT, Nat.reduceEqDiff, Nat.reduceAdd, Nat.reduceMul, Nat.reduceLeDiff, Nat.le_refl, reduceIte, reduceCtorEq, G.t, iL, pL, bL_eq, hm2]; refine ⟨_, hvc, ?_⟩; simp only [go_sem, Nat.reduceLT, Nat.reduceEqDiff, Nat.reduceAdd, Nat.reduceMul, Nat.reduceLeDiff, Nat.le_refl, reduceIte, reduceCtorEq, G.t, iL, pL, bL_eq, hm2]; refine η _ ?_; clear η κ
      repeat' first | refine c_seq ?_ | refine c_reg' rfl fun K hK => ?_ | (refine r_opN fun κ η => ?_; simp only [go_sem, Nat.reduceLT, Nat.reduceEqDiff, Nat.reduceAdd, Nat.reduceMul, Nat.reduceLeDiff, Nat.le_refl, reduceIte, reduceCtorEq]; refine η _ ?_; clear η κ) | (refine r_nil (hK _ ?_); clear hK K) | refine q_seq ?_
      refine c_cond _ rfl (fun hq => (by cases hq)) (fun hq => ?_)
      repeat' first | refine c_seq ?_ | refine c_reg' rfl fun K hK => ?_ | (refine r_opN fun κ η => ?_; simp only [go_sem, Nat.reduceLT, Nat.reduceEqDiff, Nat.reduceAdd, Nat.reduceMul, Nat.reduceLeDiff, Nat.le_refl, reduceIte, reduceCtorEq, bL_eq, hal, hacc, hll2, hgb]; (repeat refine ⟨by omega, ?_⟩); refine η _ ?_; clear η κ) | (refine r_nil (hK _ ?_); clear hK K) | refine q_seq ?_ | refine c_skip ?_
      refine r_opN fun κ η => ?_; simp only [go_sem, Nat.reduceLT, Nat.reduceEqDiff, Nat.reduceAdd, Nat.reduceMul, Nat.reduceLeDiff, Nat.le_refl, reduceIte, reduceCtorEq, G.t, iL, pL, bL_eq]; refine ⟨_, cfirst_ct Hy g (by omega), ?_⟩; simp only [go_sem, Nat.reduceLT, Nat.reduceEqDiff, Nat.reduceAdd, Nat.reduceMul, Nat.reduceLeDiff, Nat.le_refl, reduceIte, reduceCtorEq, G.t, iL, pL, bL_eq]; refine η _ ?_; clear η κ
      repeat' first | refine c_seq ?_ | refine c_block ?_ | refine c_reg' rfl fun K hK => ?_ | (refine r_opN fun κ η => ?_; simp only [go_sem, Nat.reduceLT, Nat.reduceEqDiff, Nat.reduceAdd, Nat.reduceMul, Nat.reduceLeDiff, Nat.le_refl, reduceIte, reduceCtorEq, bL_eq, hal, hacc, hll2, hgb, hbv, hfi, hdr, hbd, List.length_append]; (repeat refine ⟨by omega, ?_⟩); refine η _ ?_; clear η κ) | (refine r_nil (hK _ ?_); clear hK K) | refine q_seq ?_
      refine c_loop (fun m s' => ∃ j : Nat, m = g.next.length - j ∧ j ≤ g.next.length ∧ ∃ F oc n x, s' = nf 99 F oc [(2, x), (4, .ptr 1004 ((o 1004).gen + 1) 0), (11, .row 1034 n), (16, .t (bL vs)), (52, .t (sB seq)), (53, .t (.i .i64 seq.length)), (54, .t (.i .i64 k)), (78, .t (iL g.next)), (79, .t (.i .i64 g.next.length)), (80, .t (.i .i64 j))] [] ∧ VI g o ((o 1004).gen + 1) n (true :: (eithS begin state ++ runB g state (seq.take (k + 1)))) oc ∧ IsS2 oc x ((g.next.take j).map (litV vs))) g.next.length ?_ ?_
      · exact ⟨0, by omega, by omega, _, _, _, _, nf_of rfl ⟨rfl, rfl, rfl, rfl, rfl, rfl, rfl, rfl, rfl, rfl, trivial⟩ trivial, ⟨hI.gb, hap _, hI.fr.trans (fr_nf rfl) (Nat.le_refl _)⟩, .inl ⟨rfl, rfl⟩⟩
      rintro m1 s1 ⟨j, rfl, hj, F1, oc1, n1, x1, rfl, hI1, hst1⟩
      simp only [iL]
      repeat' first | refine c_seq ?_ | refine c_reg' rfl fun K hK => ?_ | (refine r_opN fun κ η => ?_; simp only [go_sem, Nat.reduceLT, Nat.reduceEqDiff, Nat.reduceAdd, Nat.reduceMul, Nat.reduceLeDiff, Nat.le_refl, reduceIte, reduceCtorEq]; refine η _ ?_; clear η κ) | (refine r_nil (hK _ ?_); clear hK K) | refine q_seq ?_
      refine c_cond _ rfl (fun hq5 => ?_) (fun hq5 => ?_)
      · simp only [decide_eq_true_eq] at hq5
        obtain ⟨y, hy⟩ : ∃ y, g.next[j]? = some y := ⟨_, List.getElem?_eq_getElem (by omega)⟩
        obtain ⟨p1, p2, p3⟩ := hg.nx y (List.mem_of_getElem? hy)
        obtain ⟨b, hb⟩ : ∃ b, vs[(y / 2).toNat]? = some b := ⟨_, List.getElem?_eq_getElem (by rw [hvl]; omega)⟩
        have hgb2 := bC_get hb
        have hsn : (g.next.take (j + 1)).map (litV vs) = (g.next.take j).map (litV vs) ++ [b != decide (y % 2 = 1)] := by
          rw [List.take_add_one, hy, List.map_append]
          show _ ++ [litV vs y] = _
          rw [litV, List.getD_eq_getElem?_getD, hb]
          rfl
        have hst3 : (bC ((g.next.take j).map (litV vs))).length = j := by rw [bC_len, List.length_map, List.length_take]; omega
        rcases hst1 with ⟨h0, rfl⟩ | ⟨m2, rfl, hm2⟩
        · repeat' first | refine c_seq ?_ | refine c_block ?_ | refine c_reg' rfl fun K hK => ?_ | (refine r_opN fun κ η => ?_; simp only [go_sem, Nat.reduceLT, Nat.reduceEqDiff, Nat.reduceAdd, Nat.reduceMul, Nat.reduceLeDiff, Nat.le_refl, reduceIte, reduceCtorEq, hy, bL_eq, hgb2, hbv, Int.tdiv_eq_ediv_of_nonneg p1, Int.tmod_eq_emod_of_nonneg p1]; (repeat refine ⟨by omega, ?_⟩); refine η _ ?_; clear η κ) | (refine r_nil (hK _ ?_); clear hK K) | refine q_seq ?_ | refine q_blk ?_ | refine c_skip ?_ | refine q_lpN ?_
          refine ⟨g.next.length - (j + 1), by omega, j + 1, by omega, by omega, _, _, n1, _, nf_of rfl ⟨rfl, rfl, rfl, rfl, rfl, rfl, rfl, rfl, rfl, rfl, trivial⟩ trivial, ⟨hI1.gb, hI1.al, hI1.fr.trans (fr_nf rfl) (Nat.le_refl _)⟩, .inr ⟨_, rfl, ?_⟩⟩
          rw [hsn, h0]
          rfl
        · repeat' first | refine c_seq ?_ | refine c_block ?_ | refine c_reg' rfl fun K hK => ?_ | (refine r_opN fun κ η => ?_; simp only [go_sem, Nat.reduceLT, Nat.reduceEqDiff, Nat.reduceAdd, Nat.reduceMul, Nat.reduceLeDiff, Nat.le_refl, reduceIte, reduceCtorEq, hy, bL_eq, hgb2, hbv, hm2, hst3, Int.tdiv_eq_ediv_of_nonneg p1, Int.tmod_eq_emod_of_nonneg p1]; (repeat refine ⟨by omega, ?_⟩); refine η _ ?_; clear η κ) | (refine r_nil (hK _ ?_); clear hK K) | refine q_seq ?_ | refine q_blk ?_ | refine c_skip ?_ | refine q_lpN ?_
          refine ⟨g.next.length - (j + 1), by omega, j + 1, by omega, by omega, _, _, n1, _, nf_of rfl ⟨rfl, rfl, rfl, rfl, rfl, rfl, rfl, rfl, rfl, rfl, trivial⟩ trivial, ⟨hI1.gb, hI1.al, hI1.fr.trans (fr_nf rfl) (Nat.le_refl _)⟩, .inr ⟨_, rfl, ?_⟩⟩
          rw [hsn]
          exact congrArg (fun l => (⟨_, .row 4 1 l⟩ : O)) (by simp [bC])
      · simp only [decide_eq_false_iff_not] at hq5
        obtain rfl : j = g.next.length := by omega
        rw [List.take_length] at hst1
        repeat' first | refine c_reg' rfl fun K hK => ?_ | (refine r_opN fun κ η => ?_; simp only [go_sem, Nat.reduceLT, Nat.reduceEqDiff, Nat.reduceAdd, Nat.reduceMul, Nat.reduceLeDiff, Nat.le_refl, reduceIte, reduceCtorEq]; (repeat refine ⟨by omega, ?_⟩); refine η _ ?_; clear η κ) | (refine r_nil (hK _ ?_); clear hK K) | refine q_seq ?_ | refine q_blk ?_ | refine c_exit ?_ | refine q_seqE ?_ | refine q_blkHit ?_ | refine q_lpE ?_ | refine q_lpN ?_
        refine ⟨seq.length - (k + 1), by omega, k + 1, rfl, by omega, _, _, n1, x1, nf_of rfl ⟨rfl, rfl, rfl, rfl, rfl, rfl, trivial⟩ trivial, hI1, ?_⟩
        rw [st2]
        exact .inr hst1
  · simp only [decide_eq_false_iff_not] at hq3
    obtain rfl : k = seq.length := by omega
    rw [List.take_length] at hI
    repeat' first | refine c_seq ?_ | refine c_reg' rfl fun K hK => ?_ | (refine r_opN fun κ η => ?_; simp only [go_sem, Nat.reduceLT, Nat.reduceEqDiff, Nat.reduceAdd, Nat.reduceMul, Nat.reduceLeDiff, Nat.le_refl, reduceIte, reduceCtorEq]; refine η _ ?_; clear η κ) | (refine r_nil (hK _ ?_); clear hK K) | refine q_seq ?_ | refine c_exit ?_ | refine c_ret ?_ | refine q_seqE ?_ | refine q_blkHit ?_ | refine q_lpE ?_ | (refine q_ret ?_; refine q_r1 ?_; simp only [go_sem, Nat.reduceLT, Nat.reduceEqDiff, Nat.reduceAdd, Nat.reduceMul, Nat.reduceLeDiff, Nat.le_refl, reduceIte, reduceCtorEq])
    exact ⟨.inr ⟨e0, n, rfl, hI.al⟩, hI.fr⟩
end Go.Proofs.Ytpbfkpdfodmcaaa
