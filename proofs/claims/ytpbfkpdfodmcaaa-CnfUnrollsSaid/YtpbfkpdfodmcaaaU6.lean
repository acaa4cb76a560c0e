import Derived.Test.YtpbfkpdfodmcaaaB2
import Derived.Test.YtpbfkpdfodmcaaaE6
import Derived.Test.YtpbfkpdfodmcaaaR1
namespace Go.Proofs.Ytpbfkpdfodmcaaa
open Go.RowKit
set_option maxRecDepth 100000
set_option linter.unusedSimpArgs false
variable (Hy : World → Prop)
attribute [local irreducible] runM runD cwp seqQ blkQ lpQ retQ
def valR (g : G) (begin : List Int) (state : List Bool) (seq : List (List Bool)) : List T := [bL (if valErr g begin state seq = 0 then valL g begin state seq else []), .i .i64 (valErr g begin state seq)]
/-- a state: data, nothing, or an own row -/
def IsR (oc : Nat → O) (x : A) (st : List Bool) : Prop := (x = .t (bL st) ∧ lookA [] 0 A.junk = A.junk) ∨ (st = [] ∧ x = .nilS ∧ lookA [] 0 A.junk = A.junk) ∨ ∃ m, x = .row 108 m ∧ oc 108 = ⟨m, .row 4 1 (bC st)⟩
def IsR2 (oc : Nat → O) (x : A) (st : List Bool) : Prop := (st = [] ∧ x = .nilS ∧ lookA [] 0 A.junk = A.junk) ∨ ∃ m, x = .row 108 m ∧ oc 108 = ⟨m, .row 4 1 (bC st)⟩
set_option maxHeartbeats 8000000 in
theorem rvalues19_ct (g : G) (begin : List Int) (state : List Bool) (seq : List (List Bool)) (h : g.Small) (hb : begin.length ≤ 140737488355328) (_ : state.length ≤ 140737488355328) (hq : seq.length ≤ 140737488355328) (hi : ∀ l ∈ seq, l.length ≤ 140737488355328) :
    Ct Try.prog Hy 48 [g.t, iL begin, bL state, sB seq] (valR g begin state seq) := by
  have hck := can_ct Hy g begin seq.length h hb
  refine ct_of (cls := _root_.id) tt_ok follows_ Try.func48 rfl (by decide) (Nat.le_of_ble_eq_true rfl) ?_
  rw [show Try.f48.ntmps = 111 from rfl, s0_nf]
  simp only [List.zipIdx_cons, List.zipIdx_nil, List.map_cons, List.map_nil, Nat.reduceAdd, G.t, iL, pL, bL, sB]
  repeat' first | refine c_seq ?_ | refine c_reg' rfl fun K hK => ?_ | (refine r_opN fun κ η => ?_; simp only [go_sem, Nat.reduceLT, Nat.reduceEqDiff, Nat.reduceAdd, Nat.reduceMul, Nat.reduceLeDiff, Nat.le_refl, reduceIte, reduceCtorEq]; refine η _ ?_; clear η κ) | (refine r_nil (hK _ ?_); clear hK K) | refine q_seq ?_
  refine r_opN fun κ η => ?_; simp only [go_sem, Nat.reduceLT, Nat.reduceEqDiff, Nat.reduceAdd, Nat.reduceMul, Nat.reduceLeDiff, Nat.le_refl, reduceIte, reduceCtorEq, G.t, iL, pL]; refine ⟨_, hck, ?_⟩; simp only [go_sem, Nat.reduceLT, Nat.reduceEqDiff, Nat.reduceAdd, Nat.reduceMul, Nat.reduceLeDiff, Nat.le_refl, reduceIte, reduceCtorEq, G.t, iL, pL]; refine η _ ?_; clear η κ
  repeat' first | refine c_seq ?_ | refine c_reg' rfl fun K hK => ?_ | (refine r_opN fun κ η => ?_; simp only [go_sem, Nat.reduceLT, Nat.reduceEqDiff, Nat.reduceAdd, Nat.reduceMul, Nat.reduceLeDiff, Nat.le_refl, reduceIte, reduceCtorEq]; refine η _ ?_; clear η κ) | (refine r_nil (hK _ ?_); clear hK K) | refine q_seq ?_
  refine c_cond _ rfl (fun hq1 => ?_) (fun hq1 => ?_)
  · simp only [Bool.not_eq_true', decide_eq_false_iff_not] at hq1
    have e : valErr g begin state seq = unCheck g begin seq.length := if_pos hq1
    rw [valR, e, if_neg hq1]
    repeat' first | refine c_seq ?_ | refine c_reg' rfl fun K hK => ?_ | (refine r_opN fun κ η => ?_; simp only [go_sem, Nat.reduceLT, Nat.reduceEqDiff, Nat.reduceAdd, Nat.reduceMul, Nat.reduceLeDiff, Nat.le_refl, reduceIte, reduceCtorEq, bL, List.map_nil]; refine η _ ?_; clear η κ) | (refine r_nil (hK _ ?_); clear hK K) | refine q_seq ?_ | refine c_ret ?_ | refine q_seqR ?_ | (refine q_ret ?_; refine q_r1 ?_; simp only [go_sem, Nat.reduceLT, Nat.reduceEqDiff, Nat.reduceAdd, Nat.reduceMul, Nat.reduceLeDiff, Nat.le_refl, reduceIte, reduceCtorEq, bL, List.map_nil])
  simp only [Bool.not_eq_false', decide_eq_true_eq] at hq1
  obtain ⟨q1, q2, q3, q4, q5, q6⟩ := unCheck_ok hq1
  have hg := gok_of q1
  have hN := hg.hN
  have hNl := hg.le
  have hg0 := hg.i0
  have hbl4 : begin.length ≤ 4000 := by omega
  have e0 : valErr g begin state seq = if FitU g begin state seq then 0 else 11 := if_neg (not_not_intro hq1)
  have bad : ¬ FitU g begin state seq → valR g begin state seq = [.sl [], .i .i64 11] := fun hf => by
    rw [if_neg hf] at e0
    rw [valR, e0]
    rfl
  by_cases f1 : ¬ state.length = begin.length
  · have f1' : ((state.length : Int) = g.next.length) = False := eq_false (by omega)
    rw [bad fun e => f1 e.1]
    repeat' first | refine c_seq ?_ | refine c_reg' rfl fun K hK => ?_ | (refine r_opN fun κ η => ?_; simp only [go_sem, Nat.reduceLT, Nat.reduceEqDiff, Nat.reduceAdd, Nat.reduceMul, Nat.reduceLeDiff, Nat.le_refl, reduceIte, reduceCtorEq, f1']; (repeat refine ⟨by omega, ?_⟩); refine η _ ?_; clear η κ) | (refine r_nil (hK _ ?_); clear hK K) | refine q_seq ?_ | refine c_skip ?_
    refine c_cond _ rfl (fun hq2 => ?_) (fun hq2 => (by cases hq2))
    repeat' first | refine c_seq ?_ | refine c_reg' rfl fun K hK => ?_ | (refine r_opN fun κ η => ?_; simp only [go_sem, Nat.reduceLT, Nat.reduceEqDiff, Nat.reduceAdd, Nat.reduceMul, Nat.reduceLeDiff, Nat.le_refl, reduceIte, reduceCtorEq]; refine η _ ?_; clear η κ) | (refine r_nil (hK _ ?_); clear hK K) | refine q_seq ?_ | refine c_ret ?_ | refine q_seqR ?_ | (refine q_ret ?_; refine q_r1 ?_; simp only [go_sem, Nat.reduceLT, Nat.reduceEqDiff, Nat.reduceAdd, Nat.reduceMul, Nat.reduceLeDiff, Nat.le_refl, reduceIte, reduceCtorEq])
  replace f1 := Decidable.not_not.1 f1
  have f1' : ((state.length : Int) = g.next.length) = True := eq_true (by omega)
  repeat' first | refine c_seq ?_ | refine c_reg' rfl fun K hK => ?_ | (refine r_opN fun κ η => ?_; simp only [go_sem, Nat.reduceLT, Nat.reduceEqDiff, Nat.reduceAdd, Nat.reduceMul, Nat.reduceLeDiff, Nat.le_refl, reduceIte, reduceCtorEq, f1']; (repeat refine ⟨by omega, ?_⟩); refine η _ ?_; clear η κ) | (refine r_nil (hK _ ?_); clear hK K) | refine q_seq ?_ | refine c_skip ?_
  refine c_cond _ rfl (fun hq2 => (by cases hq2)) (fun hq2 => ?_)
  repeat' first | refine c_seq ?_ | refine c_block ?_ | refine c_reg' rfl fun K hK => ?_ | (refine r_opN fun κ η => ?_; simp only [go_sem, Nat.reduceLT, Nat.reduceEqDiff, Nat.reduceAdd, Nat.reduceMul, Nat.reduceLeDiff, Nat.le_refl, reduceIte, reduceCtorEq]; refine η _ ?_; clear η κ) | (refine r_nil (hK _ ?_); clear hK K) | refine q_seq ?_ | refine c_skip ?_
  refine c_loop (fun m s' => ∃ i : Nat, m = state.length - i ∧ i ≤ state.length ∧ (∀ (j : Nat) b x, j < i → begin[j]? = some b → state[j]? = some x → b ≠ 2 → x = decide (b = 1)) ∧ ∃ F oc n, s' = nf 111 F oc [(1, .t (iL begin)), (2, .t (bL state)), (3, .t (sB seq)), (4, .ptr 4 1 0), (11, .row 32 n), (12, .t (.i .i64 i))] [(4, ⟨1, .cells 25 g.cells⟩), (32, ⟨n, .row 4 1 (bC (true :: eithS (begin.take i) (state.take i)))⟩)]) state.length ?_ ?_
  · exact ⟨0, by omega, by omega, fun j b x hj => absurd hj (Nat.not_lt_zero j), _, _, _, nf_of rfl ⟨rfl, rfl, rfl, rfl, rfl, rfl, trivial⟩ ⟨rfl, rfl, trivial⟩⟩
  rintro m s' ⟨i, rfl, hii, hno, F, oc, n, rfl⟩
  simp only [iL, bL]
  repeat' first | refine c_seq ?_ | refine c_reg' rfl fun K hK => ?_ | (refine r_opN fun κ η => ?_; simp only [go_sem, Nat.reduceLT, Nat.reduceEqDiff, Nat.reduceAdd, Nat.reduceMul, Nat.reduceLeDiff, Nat.le_refl, reduceIte, reduceCtorEq]; refine η _ ?_; clear η κ) | (refine r_nil (hK _ ?_); clear hK K) | refine q_seq ?_
  refine c_cond _ rfl (fun hq3 => ?_) (fun hq3 => ?_)
  · simp only [decide_eq_true_eq] at hq3
    obtain ⟨b, hbb⟩ : ∃ x, begin[i]? = some x := ⟨_, List.getElem?_eq_getElem (by omega)⟩
    obtain ⟨x, hx⟩ : ∃ x, state[i]? = some x := ⟨_, List.getElem?_eq_getElem (by omega)⟩
    have he := eithS_take hbb hx
    have hle := eithS_len (begin.take i) (state.take i)
    rw [List.length_take] at hle
    have hbl : (bC (true :: eithS (begin.take i) (state.take i))).length = (eithS (begin.take i) (state.take i)).length + 1 := bC_len _
    have nxt : (b ≠ 2 → x = decide (b = 1)) → ∀ (j : Nat) b x, j < i + 1 → begin[j]? = some b → state[j]? = some x → b ≠ 2 → x = decide (b = 1) := fun hh j b' x' hj e1 e2 => by
      rcases Nat.lt_or_eq_of_le (Nat.lt_succ_iff.1 hj) with h | rfl
      · exact hno j b' x' h e1 e2
      · rw [hbb] at e1
        rw [hx] at e2
        cases e1
        cases e2
        exact hh
    repeat' first | refine c_seq ?_ | refine c_block ?_ | refine c_reg' rfl fun K hK => ?_ | (refine r_opN fun κ η => ?_; simp only [go_sem, Nat.reduceLT, Nat.reduceEqDiff, Nat.reduceAdd, Nat.reduceMul, Nat.reduceLeDiff, Nat.le_refl, reduceIte, reduceCtorEq, hbb]; (repeat refine ⟨by omega, ?_⟩); refine η _ ?_; clear η κ) | (refine r_nil (hK _ ?_); clear hK K) | refine q_seq ?_ | refine c_skip ?_
    refine c_cond _ rfl (fun hq4 => ?_) (fun hq4 => ?_)
    · simp only [decide_eq_true_eq] at hq4
      rw [if_pos hq4] at he
      repeat' first | refine c_reg' rfl fun K hK => ?_ | (refine r_opN fun κ η => ?_; simp only [go_sem, Nat.reduceLT, Nat.reduceEqDiff, Nat.reduceAdd, Nat.reduceMul, Nat.reduceLeDiff, Nat.le_refl, reduceIte, reduceCtorEq, hx, hbl]; (repeat refine ⟨by omega, ?_⟩); refine η _ ?_; clear η κ) | (refine r_nil (hK _ ?_); clear hK K) | refine q_seq ?_ | refine q_blk ?_ | refine q_lpN ?_
      exact ⟨state.length - (i + 1), by omega, i + 1, rfl, by omega, nxt fun h => absurd hq4 h, _, _, _, nf_of rfl ⟨rfl, rfl, rfl, rfl, rfl, rfl, trivial⟩ ⟨rfl, by rw [he]; exact congrArg (fun l => (⟨_, .row 4 1 l⟩ : O)) (by simp [bC]), trivial⟩⟩
    · simp only [decide_eq_false_iff_not] at hq4
      rw [if_neg hq4, List.append_nil] at he
      repeat' first | refine c_seq ?_ | refine c_draw' rfl (by kernel_rfl) fun K hK => ?_ | (refine d_opN (by kernel_rfl) fun κ η => ?_; simp only [go_sem, Nat.reduceLT, Nat.reduceEqDiff, Nat.reduceAdd, Nat.reduceMul, Nat.reduceLeDiff, Nat.le_refl, reduceIte, reduceCtorEq, hx, hbb]; (repeat refine ⟨by omega, ?_⟩); refine η _ ?_; clear η κ) | refine q_seq ?_ | (refine d_nil (hK _ ?_); clear hK K)
      refine c_cond _ rfl (fun hq5 => ?_) (fun hq5 => ?_)
      · rw [bad fun e => by
          have := e.2.1 i b x hbb hx hq4
          rw [this] at hq5
          simp at hq5]
        repeat' first | refine c_seq ?_ | refine c_reg' rfl fun K hK => ?_ | (refine r_opN fun κ η => ?_; simp only [go_sem, Nat.reduceLT, Nat.reduceEqDiff, Nat.reduceAdd, Nat.reduceMul, Nat.reduceLeDiff, Nat.le_refl, reduceIte, reduceCtorEq]; refine η _ ?_; clear η κ) | (refine r_nil (hK _ ?_); clear hK K) | refine q_seq ?_ | refine c_ret ?_ | refine q_seqR ?_ | refine q_blkR ?_ | refine q_lpR ?_ | (refine q_ret ?_; refine q_r1 ?_; simp only [go_sem, Nat.reduceLT, Nat.reduceEqDiff, Nat.reduceAdd, Nat.reduceMul, Nat.reduceLeDiff, Nat.le_refl, reduceIte, reduceCtorEq])
      · have hxb : x = decide (b = 1) := by simpa using hq5
        repeat' first | refine c_reg' rfl fun K hK => ?_ | (refine r_opN fun κ η => ?_; simp only [go_sem, Nat.reduceLT, Nat.reduceEqDiff, Nat.reduceAdd, Nat.reduceMul, Nat.reduceLeDiff, Nat.le_refl, reduceIte, reduceCtorEq]; (repeat refine ⟨by omega, ?_⟩); refine η _ ?_; clear η κ) | (refine r_nil (hK _ ?_); clear hK K) | refine q_seq ?_ | refine q_blk ?_ | refine c_skip ?_ | refine q_lpN ?_
        exact ⟨state.length - (i + 1), by omega, i + 1, rfl, by omega, nxt fun _ => hxb, _, _, n, nf_of rfl ⟨rfl, rfl, rfl, rfl, rfl, rfl, trivial⟩ ⟨rfl, by rw [he]; rfl, trivial⟩⟩
  simp only [decide_eq_false_iff_not] at hq3
  obtain rfl : i = state.length := by omega
  rw [List.take_length, f1, List.take_length]
  have hel := eithS_len begin state
  repeat' first | refine c_seq ?_ | refine c_block ?_ | refine c_reg' rfl fun K hK => ?_ | (refine r_opN fun κ η => ?_; simp only [go_sem, Nat.reduceLT, Nat.reduceEqDiff, Nat.reduceAdd, Nat.reduceMul, Nat.reduceLeDiff, Nat.le_refl, reduceIte, reduceCtorEq]; refine η _ ?_; clear η κ) | (refine r_nil (hK _ ?_); clear hK K) | refine q_seq ?_ | refine c_exit ?_ | refine q_seqE ?_ | refine q_blkHit ?_ | refine q_lpE ?_
  refine c_loop (fun m s' => ∃ k : Nat, m = seq.length - k ∧ k ≤ seq.length ∧ (∀ l ∈ seq.take k, (l.length : Int) = g.ins) ∧ ∃ F oc n x, s' = nf 111 F oc [(2, x), (3, .t (sB seq)), (4, .ptr 4 1 0), (11, .row 32 n), (13, .t (.i .i64 k))] [] ∧ oc 4 = ⟨1, .cells 25 g.cells⟩ ∧ oc 32 = ⟨n, .row 4 1 (bC (true :: (eithS begin state ++ runB g state (seq.take k))))⟩ ∧ IsR oc x (stB g state (seq.take k))) seq.length ?_ ?_
  · refine ⟨0, by omega, by omega, fun l hl => (by simp at hl), _, _, n, _, nf_of rfl ⟨rfl, rfl, rfl, rfl, rfl, trivial⟩ trivial, rfl, ?_, .inl ⟨rfl, rfl⟩⟩
    rw [show eithS begin state ++ runB g state (seq.take 0) = eithS begin state from List.append_nil _]
    rfl
  clear hii hq3
  rintro m s' ⟨k, rfl, hk, f3, F, oc, n, x, rfl, hgb, hal, hst⟩
  simp only [sB, G.cells] at hgb ⊢
  repeat' first | refine c_seq ?_ | refine c_reg' rfl fun K hK => ?_ | (refine r_opN fun κ η => ?_; simp only [go_sem, Nat.reduceLT, Nat.reduceEqDiff, Nat.reduceAdd, Nat.reduceMul, Nat.reduceLeDiff, Nat.le_refl, reduceIte, reduceCtorEq]; refine η _ ?_; clear η κ) | (refine r_nil (hK _ ?_); clear hK K) | refine q_seq ?_
  refine c_cond _ rfl (fun hq3 => ?_) (fun hq3 => ?_)
  · simp only [decide_eq_true_eq] at hq3
    obtain ⟨l, hl⟩ : ∃ x, seq[k]? = some x := ⟨_, List.getElem?_eq_getElem (by omega)⟩
    have hsl := stB_len g (seq.take k) state (by omega)
    have htk : seq.take (k + 1) = seq.take k ++ [l] := by rw [List.take_add_one, hl]; rfl
    have hvc := rvalues_ct Hy g (stB g state (seq.take k)) l h (by have := h.n; omega) (hi l (List.mem_of_getElem? hl))
    by_cases hll : ¬ (l.length : Int) = g.ins
    · have e : valuesR g (stB g state (seq.take k)) l = [.sl [], .i .i64 11] := by
        rw [valuesR, if_neg (not_not_intro q1), if_pos (.inr hll)]
      rw [e] at hvc
      rw [bad fun e => hll (e.2.2 l (List.mem_of_getElem? hl))]
      rcases hst with ⟨rfl, hm2⟩ | ⟨hst0, rfl, hm2⟩ | ⟨m, rfl, hm2⟩
      all_goals
        try rw [hst0] at hvc
        repeat' first | refine c_seq ?_ | refine c_block ?_ | refine c_draw' rfl (by kernel_rfl) fun K hK => ?_ | (refine d_opN (by kernel_rfl) fun κ η => ?_; simp only [go_sem, Nat.reduceLT, Nat.reduceEqDiff, Nat.reduceAdd, Nat.reduceMul, Nat.reduceLeDiff, Nat.le_refl, reduceIte, reduceCtorEq, hl, hgb]; (repeat refine ⟨by omega, ?_⟩); refine η _ ?_; clear η κ) | refine q_seq ?_ | refine c_skip ?_
        refine d_opN (by kernel_rfl) fun κ η => ?_; simp only [go_sem, Nat.reduceLT, Nat.reduceEqDiff, Nat.reduceAdd, Nat.reduceMul, Nat.reduceLeDiff, Nat.le_refl, reduceIte, reduceCtorEq, G.t, iL, pL, bL_eq, hm2]; refine ⟨_, hvc, ?_⟩; simp only [go_sem, Nat.reduceLT, Nat.reduceEqDiff, Nat.reduceAdd, Nat.reduceMul, Nat.reduceLeDiff, Nat.le_refl, reduceIte, reduceCtorEq, G.t, iL, pL, bL_eq, hm2]; refine η _ ?_; clear η κ
        repeat' first | refine c_seq ?_ | refine c_reg' rfl fun K hK => ?_ | ((first | refine r_opN fun κ η => ?_ | refine d_opN (by kernel_rfl) fun κ η => ?_); simp only [go_sem, Nat.reduceLT, Nat.reduceEqDiff, Nat.reduceAdd, Nat.reduceMul, Nat.reduceLeDiff, Nat.le_refl, reduceIte, reduceCtorEq]; refine η _ ?_; clear η κ) | (refine r_nil (hK _ ?_); clear hK K) | refine q_seq ?_ | (refine d_nil (hK _ ?_); clear hK K)
        refine c_cond _ rfl (fun hq => ?_) (fun hq => (by cases hq))
        repeat' first | refine c_seq ?_ | refine c_reg' rfl fun K hK => ?_ | (refine r_opN fun κ η => ?_; simp only [go_sem, Nat.reduceLT, Nat.reduceEqDiff, Nat.reduceAdd, Nat.reduceMul, Nat.reduceLeDiff, Nat.le_refl, reduceIte, reduceCtorEq]; refine η _ ?_; clear η κ) | (refine r_nil (hK _ ?_); clear hK K) | refine q_seq ?_ | refine c_ret ?_ | refine q_seqR ?_ | refine q_blkR ?_ | refine q_lpR ?_ | (refine q_ret ?_; refine q_r1 ?_; simp only [go_sem, Nat.reduceLT, Nat.reduceEqDiff, Nat.reduceAdd, Nat.reduceMul, Nat.reduceLeDiff, Nat.le_refl, reduceIte, reduceCtorEq])
    replace hll := Decidable.not_not.1 hll
    have f4 : ∀ y ∈ seq.take (k + 1), (y.length : Int) = g.ins := fun y hy => by
      rw [htk] at hy
      rcases List.mem_append.1 hy with hy | hy
      · exact f3 y hy
      · rw [List.mem_singleton.1 hy]
        exact hll
    have hgo := valuesR_good (g := g) (state := stB g state (seq.take k)) (ins := l) ⟨q1, hsl, hll⟩
    rw [hgo] at hvc
    have hrl := runB_len g (vals_drop g) (seq.take k) state (by omega) f3
    have snoc := runB_snoc g (seq.take k) state l
    have st2 : stB g state (seq.take (k + 1)) = nextV g (valsG g (stB g state (seq.take k)) l) := by rw [htk, stB_snoc]
    rw [← htk] at snoc
    rw [List.length_take, Nat.min_eq_left (by omega)] at hrl
    clear htk
    generalize stB g state (seq.take k) = st at *
    generalize runB g state (seq.take k) = rb at *
    have hm := mul_in (k := (k : Int)) (q := g.ins + g.ands.length) (by omega) (by omega)
    have hfN : (firstN g : Int) = 1 + g.ins + g.next.length := by unfold firstN; omega
    have hvl : (valsG g st l).length = firstN g + g.ands.length := by
      rw [valsG, vals_len, List.length_cons, List.length_append]
      omega
    generalize hvv : valsG g st l = vs at *
    have hz1 := bC_one l
    have hz2 := bC_one vs
    have hz3 := bC_one (vs.drop (firstN g))
    have hacc : (bC (true :: (eithS begin state ++ rb))).length = (eithS begin state).length + rb.length + 1 := by rw [bC_len, List.length_cons, List.length_append]
    have hbv : (bC vs).length = firstN g + g.ands.length := by rw [bC_len, hvl]
    have hbd : (bC (vs.drop (firstN g))).length = g.ands.length := by rw [bC_len, List.length_drop, hvl]; omega
    have hfi : (1 + g.ins + (g.next.length : Int)).toNat = firstN g := by omega
    have hdr : ((bC vs).drop (firstN g)).take ((((firstN g + g.ands.length : Nat) : Int) - (1 + g.ins + (g.next.length : Int))).toNat) = bC (vs.drop (firstN g)) := by
      rw [List.take_of_length_le (by rw [List.length_drop, hbv]; omega)]
      simp [bC, List.map_drop]
    have hll2 : (bC l).length = l.length := bC_len l
    have hap : ∀ n1, (⟨n1, .row 4 1 (bC (true :: (eithS begin state ++ rb)) ++ bC l ++ bC (vs.drop (firstN g)))⟩ : O) = ⟨n1, .row 4 1 (bC (true :: (eithS begin state ++ runB g state (seq.take (k + 1)))))⟩ := fun n1 => by
      rw [snoc]
      simp [bC]
    rcases hst with ⟨rfl, hm2⟩ | ⟨hst0, rfl, hm2⟩ | ⟨m, rfl, hm2⟩
    all_goals
      try rw [hst0] at hvc
      repeat' first | refine c_seq ?_ | refine c_block ?_ | refine c_draw' rfl (by kernel_rfl) fun K hK => ?_ | (refine d_opN (by kernel_rfl) fun κ η => ?_; simp only [go_sem, Nat.reduceLT, Nat.reduceEqDiff, Nat.reduceAdd, Nat.reduceMul, Nat.reduceLeDiff, Nat.le_refl, reduceIte, reduceCtorEq, hl, hgb]; (repeat refine ⟨by omega, ?_⟩); refine η _ ?_; clear η κ) | refine q_seq ?_ | refine c_skip ?_
      refine d_opN (by kernel_rfl) fun κ η => ?_; simp only [go_sem, Nat.reduceLT, Nat.reduceEqDiff, Nat.reduceAdd, Nat.reduceMul, Nat.reduceLeDiff, Nat.le_refl, reduceIte, reduceCtorEq, G.t, iL, pL, bL_eq, hm2]; refine ⟨_, hvc, ?_⟩; simp only [go_sem, Nat.reduceLT, Nat.reduceEqDiff, Nat.reduceAdd, Nat.reduceMul, Nat.reduceLeDiff, Nat.le_refl, reduceIte, reduceCtorEq, G.t, iL, pL, bL_eq, hm2]; refine η _ ?_; clear η κ
      repeat' first | refine c_seq ?_ | refine c_reg' rfl fun K hK => ?_ | ((first | refine r_opN fun κ η => ?_ | refine d_opN (by kernel_rfl) fun κ η => ?_); simp only [go_sem, Nat.reduceLT, Nat.reduceEqDiff, Nat.reduceAdd, Nat.reduceMul, Nat.reduceLeDiff, Nat.le_refl, reduceIte, reduceCtorEq]; refine η _ ?_; clear η κ) | (refine r_nil (hK _ ?_); clear hK K) | refine q_seq ?_ | (refine d_nil (hK _ ?_); clear hK K)
      refine c_cond _ rfl (fun hq => (by cases hq)) (fun hq => ?_)
      repeat' first | refine c_seq ?_ | refine c_reg' rfl fun K hK => ?_ | (refine r_opN fun κ η => ?_; simp only [go_sem, Nat.reduceLT, Nat.reduceEqDiff, Nat.reduceAdd, Nat.reduceMul, Nat.reduceLeDiff, Nat.le_refl, reduceIte, reduceCtorEq, bL_eq, hal, hacc, hll2, hgb, hl]; (repeat refine ⟨by omega, ?_⟩); refine η _ ?_; clear η κ) | (refine r_nil (hK _ ?_); clear hK K) | refine q_seq ?_ | refine c_skip ?_
      refine r_opN fun κ η => ?_; simp only [go_sem, Nat.reduceLT, Nat.reduceEqDiff, Nat.reduceAdd, Nat.reduceMul, Nat.reduceLeDiff, Nat.le_refl, reduceIte, reduceCtorEq, G.t, iL, pL, bL_eq]; refine ⟨_, rfirst_ct Hy g (by omega), ?_⟩; simp only [go_sem, Nat.reduceLT, Nat.reduceEqDiff, Nat.reduceAdd, Nat.reduceMul, Nat.reduceLeDiff, Nat.le_refl, reduceIte, reduceCtorEq, G.t, iL, pL, bL_eq]; refine η _ ?_; clear η κ
      repeat' first | refine c_seq ?_ | refine c_block ?_ | refine c_reg' rfl fun K hK => ?_ | (refine r_opN fun κ η => ?_; simp only [go_sem, Nat.reduceLT, Nat.reduceEqDiff, Nat.reduceAdd, Nat.reduceMul, Nat.reduceLeDiff, Nat.le_refl, reduceIte, reduceCtorEq, bL_eq, hal, hacc, hll2, hgb, hl, hbv, hfi, hdr, hbd, List.length_append]; (repeat refine ⟨by omega, ?_⟩); refine η _ ?_; clear η κ) | (refine r_nil (hK _ ?_); clear hK K) | refine q_seq ?_
      refine c_loop (fun m s' => ∃ j : Nat, m = g.next.length - j ∧ j ≤ g.next.length ∧ ∃ F oc n x, s' = nf 111 F oc [(3, .t (sB seq)), (4, .ptr 4 1 0), (11, .row 32 n), (13, .t (.i .i64 k)), (14, .t (bL vs)), (16, x), (17, .t (.i .i64 j))] [] ∧ oc 4 = ⟨1, .cells 25 g.cells⟩ ∧ oc 32 = ⟨n, .row 4 1 (bC (true :: (eithS begin state ++ runB g state (seq.take (k + 1)))))⟩ ∧ IsR2 oc x ((g.next.take j).map (litV vs))) g.next.length ?_ ?_
      · exact ⟨0, by omega, by omega, _, _, _, _, nf_of rfl ⟨rfl, rfl, rfl, rfl, rfl, rfl, rfl, trivial⟩ trivial, hgb, hap _, .inl ⟨rfl, rfl, rfl⟩⟩
      rintro m1 s1 ⟨j, rfl, hj, F1, oc1, n1, x1, rfl, hgb1, hal1, hst1⟩
      simp only [iL, G.cells] at hgb1 ⊢
      repeat' first | refine c_seq ?_ | refine c_reg' rfl fun K hK => ?_ | (refine r_opN fun κ η => ?_; simp only [go_sem, Nat.reduceLT, Nat.reduceEqDiff, Nat.reduceAdd, Nat.reduceMul, Nat.reduceLeDiff, Nat.le_refl, reduceIte, reduceCtorEq, hgb1]; (repeat refine ⟨by omega, ?_⟩); refine η _ ?_; clear η κ) | (refine r_nil (hK _ ?_); clear hK K) | refine q_seq ?_
      refine c_cond _ rfl (fun hq5 => ?_) (fun hq5 => ?_)
      · simp only [decide_eq_true_eq] at hq5
        obtain ⟨y, hy⟩ : ∃ y, g.next[j]? = some y := ⟨_, List.getElem?_eq_getElem (by omega)⟩
        obtain ⟨p1, p2, p3⟩ := hg.nx y (List.mem_of_getElem? hy)
        have hsn : (g.next.take (j + 1)).map (litV vs) = (g.next.take j).map (litV vs) ++ [litV vs y] := by
          rw [List.take_add_one, hy, List.map_append]
          rfl
        have hst3 : (bC ((g.next.take j).map (litV vs))).length = j := by rw [bC_len, List.length_map, List.length_take]; omega
        have hlt : Ct Try.prog Hy 30 [bL vs, .i .i64 y] [.b (litV vs y)] := rlit_ct Hy vs y (by omega) (by omega)
        rcases hst1 with ⟨h0, rfl, hm3⟩ | ⟨m3, rfl, hm3⟩
        · repeat' first | refine c_seq ?_ | refine c_block ?_ | refine c_reg' rfl fun K hK => ?_ | (refine r_opN fun κ η => ?_; simp only [go_sem, Nat.reduceLT, Nat.reduceEqDiff, Nat.reduceAdd, Nat.reduceMul, Nat.reduceLeDiff, Nat.le_refl, reduceIte, reduceCtorEq, hy, hgb1]; (repeat refine ⟨by omega, ?_⟩); refine η _ ?_; clear η κ) | refine q_seq ?_ | refine c_skip ?_
          refine r_opN fun κ η => ?_; simp only [go_sem, Nat.reduceLT, Nat.reduceEqDiff, Nat.reduceAdd, Nat.reduceMul, Nat.reduceLeDiff, Nat.le_refl, reduceIte, reduceCtorEq, bL_eq]; refine ⟨_, hlt, ?_⟩; simp only [go_sem, Nat.reduceLT, Nat.reduceEqDiff, Nat.reduceAdd, Nat.reduceMul, Nat.reduceLeDiff, Nat.le_refl, reduceIte, reduceCtorEq, bL_eq]; refine η _ ?_; clear η κ
          repeat' first | refine c_reg' rfl fun K hK => ?_ | (refine r_opN fun κ η => ?_; simp only [go_sem, Nat.reduceLT, Nat.reduceEqDiff, Nat.reduceAdd, Nat.reduceMul, Nat.reduceLeDiff, Nat.le_refl, reduceIte, reduceCtorEq, hm3]; (repeat refine ⟨by omega, ?_⟩); refine η _ ?_; clear η κ) | (refine r_nil (hK _ ?_); clear hK K) | refine q_seq ?_ | refine q_blk ?_ | refine q_lpN ?_
          refine ⟨g.next.length - (j + 1), by omega, j + 1, rfl, by omega, _, _, n1, _, nf_of rfl ⟨rfl, rfl, rfl, rfl, rfl, rfl, rfl, trivial⟩ trivial, hgb1, hal1, .inr ⟨_, rfl, ?_⟩⟩
          rw [hsn, h0]
          rfl
        · repeat' first | refine c_seq ?_ | refine c_block ?_ | refine c_reg' rfl fun K hK => ?_ | (refine r_opN fun κ η => ?_; simp only [go_sem, Nat.reduceLT, Nat.reduceEqDiff, Nat.reduceAdd, Nat.reduceMul, Nat.reduceLeDiff, Nat.le_refl, reduceIte, reduceCtorEq, hy, hgb1]; (repeat refine ⟨by omega, ?_⟩); refine η _ ?_; clear η κ) | refine q_seq ?_ | refine c_skip ?_
          refine r_opN fun κ η => ?_; simp only [go_sem, Nat.reduceLT, Nat.reduceEqDiff, Nat.reduceAdd, Nat.reduceMul, Nat.reduceLeDiff, Nat.le_refl, reduceIte, reduceCtorEq, bL_eq]; refine ⟨_, hlt, ?_⟩; simp only [go_sem, Nat.reduceLT, Nat.reduceEqDiff, Nat.reduceAdd, Nat.reduceMul, Nat.reduceLeDiff, Nat.le_refl, reduceIte, reduceCtorEq, bL_eq]; refine η _ ?_; clear η κ
          repeat' first | refine c_reg' rfl fun K hK => ?_ | (refine r_opN fun κ η => ?_; simp only [go_sem, Nat.reduceLT, Nat.reduceEqDiff, Nat.reduceAdd, Nat.reduceMul, Nat.reduceLeDiff, Nat.le_refl, reduceIte, reduceCtorEq, hm3, hst3]; (repeat refine ⟨by omega, ?_⟩); refine η _ ?_; clear η κ) | (refine r_nil (hK _ ?_); clear hK K) | refine q_seq ?_ | refine q_blk ?_ | refine q_lpN ?_
          refine ⟨g.next.length - (j + 1), by omega, j + 1, rfl, by omega, _, _, n1, _, nf_of rfl ⟨rfl, rfl, rfl, rfl, rfl, rfl, rfl, trivial⟩ trivial, hgb1, hal1, .inr ⟨_, rfl, ?_⟩⟩
          rw [hsn]
          exact congrArg (fun l => (⟨_, .row 4 1 l⟩ : O)) (by simp [bC])
      · simp only [decide_eq_false_iff_not] at hq5
        obtain rfl : j = g.next.length := by omega
        rw [List.take_length] at hst1
        repeat' first | refine c_reg' rfl fun K hK => ?_ | (refine r_opN fun κ η => ?_; simp only [go_sem, Nat.reduceLT, Nat.reduceEqDiff, Nat.reduceAdd, Nat.reduceMul, Nat.reduceLeDiff, Nat.le_refl, reduceIte, reduceCtorEq]; (repeat refine ⟨by omega, ?_⟩); refine η _ ?_; clear η κ) | (refine r_nil (hK _ ?_); clear hK K) | refine q_seq ?_ | refine q_blk ?_ | refine c_exit ?_ | refine q_seqE ?_ | refine q_blkHit ?_ | refine q_lpE ?_ | refine q_lpN ?_
        refine ⟨seq.length - (k + 1), by omega, k + 1, rfl, by omega, f4, _, _, n1, x1, nf_of rfl ⟨rfl, rfl, rfl, rfl, rfl, trivial⟩ trivial, hgb1, hal1, ?_⟩
        rw [st2]
        exact .inr hst1
  · simp only [decide_eq_false_iff_not] at hq3
    obtain rfl : k = seq.length := by omega
    rw [List.take_length] at hal f3
    have hfit : FitU g begin state seq := ⟨f1, fun j b x e1 e2 => hno j b x (List.getElem?_eq_some_iff.1 e2).1 e1 e2, f3⟩
    rw [valR, e0, if_pos hfit, if_pos rfl]
    repeat' first | refine c_seq ?_ | refine c_reg' rfl fun K hK => ?_ | (refine r_opN fun κ η => ?_; simp only [go_sem, Nat.reduceLT, Nat.reduceEqDiff, Nat.reduceAdd, Nat.reduceMul, Nat.reduceLeDiff, Nat.le_refl, reduceIte, reduceCtorEq, hal]; refine η _ ?_; clear η κ) | (refine r_nil (hK _ ?_); clear hK K) | refine q_seq ?_ | refine c_exit ?_ | refine c_ret ?_ | refine q_seqE ?_ | refine q_blkHit ?_ | refine q_lpE ?_ | (refine q_ret ?_; refine q_r1 ?_; simp only [go_sem, Nat.reduceLT, Nat.reduceEqDiff, Nat.reduceAdd, Nat.reduceMul, Nat.reduceLeDiff, Nat.le_refl, reduceIte, reduceCtorEq, hal])
    rfl
end Go.Proofs.Ytpbfkpdfodmcaaa
