import Derived.Test.YtpbfkpdfodmcaaaE5
namespace Go.Proofs.Ytpbfkpdfodmcaaa
open Go.RowKit
set_option maxRecDepth 100000
set_option linter.unusedSimpArgs false
variable (Hy : World → Prop)
attribute [local irreducible] runM runD cwp seqQ blkQ lpQ retQ
def sB (l : List (List Bool)) : T := .sl (l.map fun b => [bL b])
theorem fits1_cm (g : G) {o : Nat → O} {id n : Nat} (ho : o id = ⟨n, .cells 25 g.cells⟩) (b : List Bool) :
    Cm Try.prog Hy 113 [.t (bL b), .ptr id n 0] o fun rs o' => rs = [.t (.b (!decide ((b.length : Int) = g.ins)))] ∧ o = o' := by
  refine cm_of (cls := _root_.id) tt_ok follows_ Try.func113 rfl (by decide) (Nat.le_of_ble_eq_true rfl) ?_
  rw [show Try.f113.ntmps = 9 from rfl, s0_nf]
  simp only [List.zipIdx_cons, List.zipIdx_nil, List.map_cons, List.map_nil, Nat.reduceAdd, bL]
  repeat' first | refine c_seq ?_ | refine c_reg' rfl fun K hK => ?_ | (refine r_opN fun κ η => ?_; simp only [go_sem, Nat.reduceLT, Nat.reduceEqDiff, Nat.reduceAdd, Nat.reduceMul, Nat.reduceLeDiff, Nat.le_refl, reduceIte, reduceCtorEq, ho, G.cells]; (repeat refine ⟨by omega, ?_⟩); refine η _ ?_; clear η κ) | (refine r_nil (hK _ ?_); clear hK K) | refine q_seq ?_ | refine c_ret ?_ | (refine q_ret ?_; refine q_r1 ?_; simp only [go_sem, Nat.reduceLT, Nat.reduceEqDiff, Nat.reduceAdd, Nat.reduceMul, Nat.reduceLeDiff, Nat.le_refl, reduceIte, reduceCtorEq, ho, G.cells])
theorem indexFuncB_cm {f : FuncId} {caps : List A} {o : Nat → O} {p : List Bool → Bool} {l : List (List Bool)} (hl : l.length ≤ 140737488355328) (h : Fn Hy f caps o (fun x : List Bool => [.t (bL x)]) p l) :
    Cm Try.prog Hy 116 [.t (sB l), .fn f [] caps] o fun rs o' => rs = [.t (.i .i64 (ixI p l))] ∧ o = o' := by
  refine cm_of (cls := _root_.id) tt_ok follows_ Try.func116 rfl (by decide) (Nat.le_of_ble_eq_true rfl) ?_
  rw [show Try.f116.ntmps = 19 from rfl, s0_nf]
  simp only [List.zipIdx_cons, List.zipIdx_nil, List.map_cons, List.map_nil, Nat.reduceAdd, sB]
  repeat' first | refine c_seq ?_ | refine c_block ?_ | refine c_reg' rfl fun K hK => ?_ | (refine r_opN fun κ η => ?_; simp only [go_sem, Nat.reduceLT, Nat.reduceEqDiff, Nat.reduceAdd, Nat.reduceMul, Nat.reduceLeDiff, Nat.le_refl, reduceIte, reduceCtorEq]; refine η _ ?_; clear η κ) | (refine r_nil (hK _ ?_); clear hK K) | refine q_seq ?_
  refine c_loop (fun m s' => ∃ k, m = l.length - k ∧ k ≤ l.length ∧ (∀ (j : Nat) y, j < k → l[j]? = some y → p y = false) ∧ ∃ F, s' = nf 19 F o [(0, .t (sB l)), (1, .fn f [] caps), (7, .t (.i .i64 l.length)), (8, .t (.i .i64 k))] []) l.length ?_ ?_
  · exact ⟨0, by omega, by omega, fun j x hj => absurd hj (Nat.not_lt_zero j), _, nf_of rfl ⟨rfl, rfl, rfl, rfl, trivial⟩ trivial⟩
  · rintro m s' ⟨k, rfl, hk, hno, F, rfl⟩
    simp only [sB]
    repeat' first | refine c_seq ?_ | refine c_reg' rfl fun K hK => ?_ | (refine r_opN fun κ η => ?_; simp only [go_sem, Nat.reduceLT, Nat.reduceEqDiff, Nat.reduceAdd, Nat.reduceMul, Nat.reduceLeDiff, Nat.le_refl, reduceIte, reduceCtorEq]; refine η _ ?_; clear η κ) | (refine r_nil (hK _ ?_); clear hK K) | refine q_seq ?_
    refine c_cond _ rfl (fun hq => ?_) (fun hq => ?_)
    · simp only [decide_eq_true_eq] at hq
      obtain ⟨x, hx⟩ : ∃ x, l[k]? = some x := ⟨_, List.getElem?_eq_getElem (by omega)⟩
      repeat' first | refine c_seq ?_ | refine c_block ?_ | refine c_reg' rfl fun K hK => ?_ | (refine r_opN fun κ η => ?_; simp only [go_sem, Nat.reduceLT, Nat.reduceEqDiff, Nat.reduceAdd, Nat.reduceMul, Nat.reduceLeDiff, Nat.le_refl, reduceIte, reduceCtorEq, hx]; (repeat refine ⟨by omega, ?_⟩); refine η _ ?_; clear η κ) | (refine r_nil (hK _ ?_); clear hK K) | refine q_seq ?_ | refine c_skip ?_
      refine r_call fun κ η => ?_; simp only [go_sem, Nat.reduceLT, Nat.reduceEqDiff, Nat.reduceAdd, Nat.reduceMul, Nat.reduceLeDiff, Nat.le_refl, reduceIte, reduceCtorEq]; refine ⟨_, h x (List.mem_of_getElem? hx), ?_⟩; rintro _ _ ⟨rfl, rfl⟩; simp only [go_sem, Nat.reduceLT, Nat.reduceEqDiff, Nat.reduceAdd, Nat.reduceMul, Nat.reduceLeDiff, Nat.le_refl, reduceIte, reduceCtorEq]; refine η _ ?_; clear η κ
      repeat' first | (refine r_nil (hK _ ?_); clear hK K) | refine q_seq ?_
      refine c_cond _ rfl (fun hq2 => ?_) (fun hq2 => ?_)
      · repeat' first | refine c_seq ?_ | refine c_reg' rfl fun K hK => ?_ | (refine r_opN fun κ η => ?_; simp only [go_sem, Nat.reduceLT, Nat.reduceEqDiff, Nat.reduceAdd, Nat.reduceMul, Nat.reduceLeDiff, Nat.le_refl, reduceIte, reduceCtorEq]; refine η _ ?_; clear η κ) | (refine r_nil (hK _ ?_); clear hK K) | refine q_seq ?_ | refine c_ret ?_ | refine q_seqR ?_ | refine q_blkR ?_ | refine q_lpR ?_ | (refine q_ret ?_; refine q_r1 ?_; simp only [go_sem, Nat.reduceLT, Nat.reduceEqDiff, Nat.reduceAdd, Nat.reduceMul, Nat.reduceLeDiff, Nat.le_refl, reduceIte, reduceCtorEq])
        rw [ixI_some hx hq2 hno]
      · repeat' first | refine c_reg' rfl fun K hK => ?_ | (refine r_opN fun κ η => ?_; simp only [go_sem, Nat.reduceLT, Nat.reduceEqDiff, Nat.reduceAdd, Nat.reduceMul, Nat.reduceLeDiff, Nat.le_refl, reduceIte, reduceCtorEq]; (repeat refine ⟨by omega, ?_⟩); refine η _ ?_; clear η κ) | (refine r_nil (hK _ ?_); clear hK K) | refine q_seq ?_ | refine q_blk ?_ | refine c_skip ?_ | refine q_lpN ?_
        refine ⟨l.length - (k + 1), by omega, k + 1, rfl, by omega, fun j y hj hy => ?_, _, nf_of rfl ⟨rfl, rfl, rfl, rfl, trivial⟩ trivial⟩
        rcases Nat.lt_or_eq_of_le (Nat.lt_succ_iff.1 hj) with h | rfl
        · exact hno j y h hy
        · rw [hx] at hy; cases hy; exact hq2
    · simp only [decide_eq_false_iff_not] at hq
      repeat' first | refine c_seq ?_ | refine c_reg' rfl fun K hK => ?_ | (refine r_opN fun κ η => ?_; simp only [go_sem, Nat.reduceLT, Nat.reduceEqDiff, Nat.reduceAdd, Nat.reduceMul, Nat.reduceLeDiff, Nat.le_refl, reduceIte, reduceCtorEq]; refine η _ ?_; clear η κ) | (refine r_nil (hK _ ?_); clear hK K) | refine q_seq ?_ | refine c_exit ?_ | refine c_ret ?_ | refine q_seqE ?_ | refine q_blkHit ?_ | refine q_lpE ?_ | (refine q_ret ?_; refine q_r1 ?_; simp only [go_sem, Nat.reduceLT, Nat.reduceEqDiff, Nat.reduceAdd, Nat.reduceMul, Nat.reduceLeDiff, Nat.le_refl, reduceIte, reduceCtorEq])
      rw [ixI_none (fun j y hj hy => hno j y (by omega) hy)]
theorem containsFuncB_cm {f : FuncId} {caps : List A} {o : Nat → O} {p : List Bool → Bool} {l : List (List Bool)} (hl : l.length ≤ 140737488355328) (h : Fn Hy f caps o (fun x : List Bool => [.t (bL x)]) p l) :
    Cm Try.prog Hy 112 [.t (sB l), .fn f [] caps] o fun rs o' => rs = [.t (.b (l.any p))] ∧ o = o' := by
  refine cm_of (cls := _root_.id) tt_ok follows_ Try.func112 rfl (by decide) (Nat.le_of_ble_eq_true rfl) ?_
  rw [show Try.f112.ntmps = 9 from rfl, s0_nf]
  simp only [List.zipIdx_cons, List.zipIdx_nil, List.map_cons, List.map_nil, Nat.reduceAdd]
  repeat' first | refine c_seq ?_ | refine c_reg' rfl fun K hK => ?_ | (refine r_opN fun κ η => ?_; simp only [go_sem, Nat.reduceLT, Nat.reduceEqDiff, Nat.reduceAdd, Nat.reduceMul, Nat.reduceLeDiff, Nat.le_refl, reduceIte, reduceCtorEq]; refine η _ ?_; clear η κ) | (refine r_nil (hK _ ?_); clear hK K) | refine q_seq ?_
  refine r_call fun κ η => ?_; simp only [go_sem, Nat.reduceLT, Nat.reduceEqDiff, Nat.reduceAdd, Nat.reduceMul, Nat.reduceLeDiff, Nat.le_refl, reduceIte, reduceCtorEq]; refine ⟨_, indexFuncB_cm Hy hl h, ?_⟩; rintro _ _ ⟨rfl, rfl⟩; simp only [go_sem, Nat.reduceLT, Nat.reduceEqDiff, Nat.reduceAdd, Nat.reduceMul, Nat.reduceLeDiff, Nat.le_refl, reduceIte, reduceCtorEq]; refine η _ ?_; clear η κ
  repeat' first | (refine r_opN fun κ η => ?_; simp only [go_sem, Nat.reduceLT, Nat.reduceEqDiff, Nat.reduceAdd, Nat.reduceMul, Nat.reduceLeDiff, Nat.le_refl, reduceIte, reduceCtorEq, ixI_ge]; refine η _ ?_; clear η κ) | (refine r_nil (hK _ ?_); clear hK K) | refine q_seq ?_ | refine c_ret ?_ | (refine q_ret ?_; refine q_r1 ?_; simp only [go_sem, Nat.reduceLT, Nat.reduceEqDiff, Nat.reduceAdd, Nat.reduceMul, Nat.reduceLeDiff, Nat.le_refl, reduceIte, reduceCtorEq, ixI_ge])
/-- may a run begin so, and does it have values for all inputs? -/
def FitU (g : G) (begin : List Int) (state : List Bool) (seq : List (List Bool)) : Prop :=
  state.length = begin.length ∧ (∀ (j : Nat) b x, begin[j]? = some b → state[j]? = some x → b ≠ 2 → x = decide (b = 1)) ∧ ∀ l ∈ seq, (l.length : Int) = g.ins
theorem fits_ct (g : G) (begin : List Int) (state : List Bool) (seq : List (List Bool)) (h1 : begin.length ≤ 140737488355328) (_ : state.length ≤ 140737488355328) (h3 : seq.length ≤ 140737488355328) [Decidable (FitU g begin state seq)] :
    Ct Try.prog Hy 96 [g.t, iL begin, bL state, sB seq] [.b (decide (FitU g begin state seq))] := by
  refine ct_of (cls := _root_.id) tt_ok follows_ Try.func96 rfl (by decide) (Nat.le_of_ble_eq_true rfl) ?_
  rw [show Try.f96.ntmps = 39 from rfl, s0_nf]
  simp only [List.zipIdx_cons, List.zipIdx_nil, List.map_cons, List.map_nil, Nat.reduceAdd, G.t, iL, pL, bL, sB]
  repeat' first | refine c_seq ?_ | refine c_reg' rfl fun K hK => ?_ | (refine r_opN fun κ η => ?_; simp only [go_sem, Nat.reduceLT, Nat.reduceEqDiff, Nat.reduceAdd, Nat.reduceMul, Nat.reduceLeDiff, Nat.le_refl, reduceIte, reduceCtorEq]; refine η _ ?_; clear η κ) | (refine r_nil (hK _ ?_); clear hK K) | refine q_seq ?_
  refine c_cond _ rfl (fun hq => ?_) (fun hq => ?_)
  · simp only [Bool.not_eq_true', decide_eq_false_iff_not] at hq
    repeat' first | refine c_seq ?_ | refine c_reg' rfl fun K hK => ?_ | (refine r_opN fun κ η => ?_; simp only [go_sem, Nat.reduceLT, Nat.reduceEqDiff, Nat.reduceAdd, Nat.reduceMul, Nat.reduceLeDiff, Nat.le_refl, reduceIte, reduceCtorEq]; refine η _ ?_; clear η κ) | (refine r_nil (hK _ ?_); clear hK K) | refine q_seq ?_ | refine c_ret ?_ | refine q_seqR ?_ | (refine q_ret ?_; refine q_r1 ?_; simp only [go_sem, Nat.reduceLT, Nat.reduceEqDiff, Nat.reduceAdd, Nat.reduceMul, Nat.reduceLeDiff, Nat.le_refl, reduceIte, reduceCtorEq])
    rw [decide_eq_false (fun e : FitU g begin state seq => hq (by rw [e.1]))]
  simp only [Bool.not_eq_false', decide_eq_true_eq] at hq
  repeat' first | refine c_seq ?_ | refine c_block ?_ | refine c_reg' rfl fun K hK => ?_ | (refine r_opN fun κ η => ?_; simp only [go_sem, Nat.reduceLT, Nat.reduceEqDiff, Nat.reduceAdd, Nat.reduceMul, Nat.reduceLeDiff, Nat.le_refl, reduceIte, reduceCtorEq]; refine η _ ?_; clear η κ) | (refine r_nil (hK _ ?_); clear hK K) | refine q_seq ?_ | refine c_skip ?_
  refine c_loop (fun m s' => ∃ i : Nat, m = begin.length - i ∧ i ≤ begin.length ∧ (∀ (j : Nat) b x, j < i → begin[j]? = some b → state[j]? = some x → b ≠ 2 → x = decide (b = 1)) ∧ ∃ F G0, s' = nf 39 F G0 [(2, .t (bL state)), (3, .t (sB seq)), (4, .ptr 4 1 0), (16, .t (iL begin)), (17, .t (.i .i64 begin.length)), (18, .t (.i .i64 i))] [(4, ⟨1, .cells 25 g.cells⟩)]) (begin.length) ?_ ?_
  · exact ⟨0, by omega, by omega, fun j b x hj => absurd hj (Nat.not_lt_zero j), _, _, nf_of rfl ⟨rfl, rfl, rfl, rfl, rfl, rfl, trivial⟩ ⟨rfl, trivial⟩⟩
  rintro m s' ⟨i, rfl, hi, hno, F, G0, rfl⟩
  simp only [iL, bL]
  repeat' first | refine c_seq ?_ | refine c_reg' rfl fun K hK => ?_ | (refine r_opN fun κ η => ?_; simp only [go_sem, Nat.reduceLT, Nat.reduceEqDiff, Nat.reduceAdd, Nat.reduceMul, Nat.reduceLeDiff, Nat.le_refl, reduceIte, reduceCtorEq]; refine η _ ?_; clear η κ) | (refine r_nil (hK _ ?_); clear hK K) | refine q_seq ?_
  refine c_cond _ rfl (fun hq2 => ?_) (fun hq2 => ?_)
  · simp only [decide_eq_true_eq] at hq2
    obtain ⟨b, hb⟩ : ∃ x, begin[i]? = some x := ⟨_, List.getElem?_eq_getElem (by omega)⟩
    obtain ⟨x, hx⟩ : ∃ x, state[i]? = some x := ⟨_, List.getElem?_eq_getElem (by omega)⟩
    have nxt : (b ≠ 2 → x = decide (b = 1)) → ∀ (j : Nat) b x, j < i + 1 → begin[j]? = some b → state[j]? = some x → b ≠ 2 → x = decide (b = 1) := fun hh j b' x' hj e1 e2 => by
      rcases Nat.lt_or_eq_of_le (Nat.lt_succ_iff.1 hj) with h | rfl
      · exact hno j b' x' h e1 e2
      · rw [hb] at e1
        rw [hx] at e2
        cases e1
        cases e2
        exact hh
    by_cases c1 : b = 2
    · have c1' : (b = 2) = True := eq_true c1
      repeat' first | refine c_seq ?_ | refine c_block ?_ | refine c_reg' rfl fun K hK => ?_ | ((first | refine r_opN fun κ η => ?_ | refine r_opG rfl fun κ η => ?_); simp only [go_sem, Nat.reduceLT, Nat.reduceEqDiff, Nat.reduceAdd, Nat.reduceMul, Nat.reduceLeDiff, Nat.le_refl, reduceIte, reduceCtorEq, hb, c1']; (repeat refine ⟨by omega, ?_⟩); refine η _ ?_; clear η κ) | (refine r_nil (hK _ ?_); clear hK K) | refine q_seq ?_ | refine c_skip ?_
      refine c_cond _ rfl (fun hq3 => (by cases hq3)) (fun hq3 => ?_)
      repeat' first | refine c_reg' rfl fun K hK => ?_ | (refine r_opN fun κ η => ?_; simp only [go_sem, Nat.reduceLT, Nat.reduceEqDiff, Nat.reduceAdd, Nat.reduceMul, Nat.reduceLeDiff, Nat.le_refl, reduceIte, reduceCtorEq]; (repeat refine ⟨by omega, ?_⟩); refine η _ ?_; clear η κ) | (refine r_nil (hK _ ?_); clear hK K) | refine q_seq ?_ | refine q_blk ?_ | refine c_skip ?_ | refine q_lpN ?_
      refine ⟨begin.length - (i + 1), by omega, i + 1, rfl, by omega, nxt (fun h => absurd c1 h), _, _, nf_of rfl ⟨rfl, rfl, rfl, rfl, rfl, rfl, trivial⟩ ⟨rfl, trivial⟩⟩
    · repeat' first | refine c_seq ?_ | refine c_block ?_ | refine c_reg' rfl fun K hK => ?_ | ((first | refine r_opN fun κ η => ?_ | refine r_opG rfl fun κ η => ?_); simp only [go_sem, Nat.reduceLT, Nat.reduceEqDiff, Nat.reduceAdd, Nat.reduceMul, Nat.reduceLeDiff, Nat.le_refl, reduceIte, reduceCtorEq, hb, hx, c1]; (repeat refine ⟨by omega, ?_⟩); refine η _ ?_; clear η κ) | (refine r_nil (hK _ ?_); clear hK K) | refine q_seq ?_ | refine c_skip ?_
      refine c_cond _ rfl (fun hq3 => ?_) (fun hq3 => ?_)
      · repeat' first | refine c_seq ?_ | refine c_reg' rfl fun K hK => ?_ | (refine r_opN fun κ η => ?_; simp only [go_sem, Nat.reduceLT, Nat.reduceEqDiff, Nat.reduceAdd, Nat.reduceMul, Nat.reduceLeDiff, Nat.le_refl, reduceIte, reduceCtorEq]; refine η _ ?_; clear η κ) | (refine r_nil (hK _ ?_); clear hK K) | refine q_seq ?_ | refine c_ret ?_ | refine q_seqR ?_ | refine q_blkR ?_ | refine q_lpR ?_ | (refine q_ret ?_; refine q_r1 ?_; simp only [go_sem, Nat.reduceLT, Nat.reduceEqDiff, Nat.reduceAdd, Nat.reduceMul, Nat.reduceLeDiff, Nat.le_refl, reduceIte, reduceCtorEq])
        rw [decide_eq_false (fun e : FitU g begin state seq => by
          have := e.2.1 i b x hb hx c1
          rw [this] at hq3
          simp at hq3)]
      · repeat' first | refine c_reg' rfl fun K hK => ?_ | (refine r_opN fun κ η => ?_; simp only [go_sem, Nat.reduceLT, Nat.reduceEqDiff, Nat.reduceAdd, Nat.reduceMul, Nat.reduceLeDiff, Nat.le_refl, reduceIte, reduceCtorEq]; (repeat refine ⟨by omega, ?_⟩); refine η _ ?_; clear η κ) | (refine r_nil (hK _ ?_); clear hK K) | refine q_seq ?_ | refine q_blk ?_ | refine c_skip ?_ | refine q_lpN ?_
        refine ⟨begin.length - (i + 1), by omega, i + 1, rfl, by omega, nxt (fun _ => by simpa using hq3), _, _, nf_of rfl ⟨rfl, rfl, rfl, rfl, rfl, rfl, trivial⟩ ⟨rfl, trivial⟩⟩
  · simp only [decide_eq_false_iff_not] at hq2
    repeat' first | refine c_seq ?_ | refine c_reg' rfl fun K hK => ?_ | (refine r_opN fun κ η => ?_; simp only [go_sem, Nat.reduceLT, Nat.reduceEqDiff, Nat.reduceAdd, Nat.reduceMul, Nat.reduceLeDiff, Nat.le_refl, reduceIte, reduceCtorEq]; refine η _ ?_; clear η κ) | refine q_seq ?_ | refine c_exit ?_ | refine q_seqE ?_ | refine q_blkHit ?_ | refine q_lpE ?_
    refine r_call fun κ η => ?_; simp only [go_sem, Nat.reduceLT, Nat.reduceEqDiff, Nat.reduceAdd, Nat.reduceMul, Nat.reduceLeDiff, Nat.le_refl, reduceIte, reduceCtorEq, sB, bL]; refine ⟨_, containsFuncB_cm Hy (Nat.le_trans h3 (by decide)) (fun x _ => fits1_cm Hy g (id := 4) (n := 1) rfl x), ?_⟩; rintro _ _ ⟨rfl, rfl⟩; simp only [go_sem, Nat.reduceLT, Nat.reduceEqDiff, Nat.reduceAdd, Nat.reduceMul, Nat.reduceLeDiff, Nat.le_refl, reduceIte, reduceCtorEq, sB, bL]; refine η _ ?_; clear η κ
    repeat' first | (refine r_opN fun κ η => ?_; simp only [go_sem, Nat.reduceLT, Nat.reduceEqDiff, Nat.reduceAdd, Nat.reduceMul, Nat.reduceLeDiff, Nat.le_refl, reduceIte, reduceCtorEq]; refine η _ ?_; clear η κ) | (refine r_nil (hK _ ?_); clear hK K) | refine q_seq ?_ | refine c_ret ?_ | (refine q_ret ?_; refine q_r1 ?_; simp only [go_sem, Nat.reduceLT, Nat.reduceEqDiff, Nat.reduceAdd, Nat.reduceMul, Nat.reduceLeDiff, Nat.le_refl, reduceIte, reduceCtorEq])
    rw [show decide (FitU g begin state seq) = !seq.any fun l => !decide ((l.length : Int) = g.ins) from by
      rw [Bool.eq_iff_iff, decide_eq_true_eq, Bool.not_eq_true', List.any_eq_false]
      refine ⟨fun e l hl => by simp [e.2.2 l hl], fun e => ⟨by omega, fun j b x e1 e2 => hno j b x (by have := (List.getElem?_eq_some_iff.1 e1).1; omega) e1 e2, fun l hl => by simpa using e l hl⟩⟩]
end Go.Proofs.Ytpbfkpdfodmcaaa
namespace Go.Proofs.Ytpbfkpdfodmcaaa
open Go.RowKit
set_option maxRecDepth 100000
set_option linter.unusedSimpArgs false
variable (Hy : World → Prop)
attribute [local irreducible] runM runD cwp seqQ blkQ lpQ retQ
def fitB (g : G) (begin : List Int) (state : List Bool) (seq : List (List Bool)) : Bool :=
  decide (state.length = begin.length) && ((List.range begin.length).all fun j => decide (begin.getD j 0 = 2) || (state.getD j false == decide (begin.getD j 0 = 1))) && seq.all fun l => decide ((l.length : Int) = g.ins)
theorem fitB_iff (g : G) (begin : List Int) (state : List Bool) (seq : List (List Bool)) : fitB g begin state seq = true ↔ FitU g begin state seq := by
  unfold fitB FitU
  rw [Bool.and_eq_true, Bool.and_eq_true, decide_eq_true_eq, List.all_eq_true, List.all_eq_true, and_assoc]
  refine and_congr_right fun hl => and_congr ⟨fun h j b x hb hx h2 => ?_, fun h j hj => ?_⟩ ⟨fun h l hl => by simpa using h l hl, fun h l hl => by simpa using h l hl⟩
  · have := h j (List.mem_range.2 (List.getElem?_eq_some_iff.1 hb).1)
    rw [List.getD_eq_getElem?_getD, List.getD_eq_getElem?_getD, hb, hx] at this
    simp only [Option.getD_some, Bool.or_eq_true, decide_eq_true_eq, beq_iff_eq] at this
    exact this.resolve_left h2
  · have hj := List.mem_range.1 hj
    obtain ⟨b, hb⟩ : ∃ x, begin[j]? = some x := ⟨_, List.getElem?_eq_getElem hj⟩
    obtain ⟨x, hx⟩ : ∃ x, state[j]? = some x := ⟨_, List.getElem?_eq_getElem (by omega)⟩
    rw [List.getD_eq_getElem?_getD, List.getD_eq_getElem?_getD, hb, hx]
    simp only [Option.getD_some, Bool.or_eq_true, decide_eq_true_eq, beq_iff_eq]
    by_cases h2 : b = 2
    · exact .inl h2
    · exact .inr (h j b x hb hx h2)
instance (g : G) (begin : List Int) (state : List Bool) (seq : List (List Bool)) : Decidable (FitU g begin state seq) := decidable_of_iff _ (fitB_iff g begin state seq)
def bC (l : List Bool) : List (List T) := l.map fun b => [.b b]
theorem bL_eq (l : List Bool) : bL l = .sl (bC l) := rfl
theorem bC_len (l : List Bool) : (bC l).length = l.length := by simp [bC]
theorem bC_get {l : List Bool} {j : Nat} {x : Bool} (h : l[j]? = some x) : (bC l)[j]? = some [.b x] := by simp [bC, h]
theorem bC_one (l : List Bool) : ∀ e ∈ bC l, e.length = 1 := fun e he => by
  obtain ⟨x, hx, rfl⟩ := List.mem_map.1 he
  rfl
def eithS : List Int → List Bool → List Bool
  | b :: bs, s :: ss => if b = 2 then s :: eithS bs ss else eithS bs ss
  | _, _ => []
theorem eithS_snoc : ∀ {bs : List Int} {ss : List Bool} {b : Int} {s : Bool}, bs.length = ss.length → eithS (bs ++ [b]) (ss ++ [s]) = eithS bs ss ++ if b = 2 then [s] else []
  | [], [], b, s, _ => by
    show (if b = 2 then [s] else []) = _
    rfl
  | b' :: bs, s' :: ss, b, s, h => by
    have ih := eithS_snoc (bs := bs) (ss := ss) (b := b) (s := s) (by simpa using h)
    show (if b' = 2 then s' :: eithS (bs ++ [b]) (ss ++ [s]) else eithS (bs ++ [b]) (ss ++ [s])) = (if b' = 2 then s' :: eithS bs ss else eithS bs ss) ++ _
    rw [ih]
    split <;> simp
  | [], _ :: _, _, _, h => by cases h
  | _ :: _, [], _, _, h => by cases h
theorem eithS_take {begin : List Int} {state : List Bool} {i : Nat} {b : Int} {s : Bool} (hb : begin[i]? = some b) (hs : state[i]? = some s) : eithS (begin.take (i + 1)) (state.take (i + 1)) = eithS (begin.take i) (state.take i) ++ if b = 2 then [s] else [] := by
  have h1 := (List.getElem?_eq_some_iff.1 hb).1
  have h2 := (List.getElem?_eq_some_iff.1 hs).1
  rw [List.take_add_one, List.take_add_one, hb, hs]
  exact eithS_snoc (by rw [List.length_take, List.length_take]; omega)
def nextV (g : G) (v : List Bool) : List Bool := g.next.map (litV v)
def runB (g : G) : List Bool → List (List Bool) → List Bool
  | _, [] => []
  | s, i :: q => i ++ (valsG g s i).drop (firstN g) ++ runB g (nextV g (valsG g s i)) q
def stB (g : G) : List Bool → List (List Bool) → List Bool
  | s, [] => s
  | s, i :: q => stB g (nextV g (valsG g s i)) q
theorem stB_snoc (g : G) : ∀ (q : List (List Bool)) (s i : List Bool), stB g s (q ++ [i]) = nextV g (valsG g (stB g s q) i)
  | [], _, _ => rfl
  | _ :: q, _, i => stB_snoc g q _ i
theorem runB_snoc (g : G) : ∀ (q : List (List Bool)) (s i : List Bool), runB g s (q ++ [i]) = runB g s q ++ (i ++ (valsG g (stB g s q) i).drop (firstN g))
  | [], s, i => by
    show i ++ (valsG g s i).drop (firstN g) ++ [] = [] ++ _
    rw [List.append_nil, List.nil_append]
    rfl
  | j :: q, s, i => by
    show j ++ (valsG g s j).drop (firstN g) ++ runB g (nextV g (valsG g s j)) (q ++ [i]) = j ++ (valsG g s j).drop (firstN g) ++ runB g (nextV g (valsG g s j)) q ++ _
    rw [runB_snoc g q]
    simp only [List.append_assoc]
    rfl
theorem stB_len (g : G) : ∀ (q : List (List Bool)) (s : List Bool), s.length = g.next.length → (stB g s q).length = g.next.length
  | [], _, h => h
  | _ :: q, _, _ => stB_len g q _ (by simp [nextV])
def valErr (g : G) (begin : List Int) (state : List Bool) (seq : List (List Bool)) : Int := if unCheck g begin seq.length ≠ 0 then unCheck g begin seq.length else if FitU g begin state seq then 0 else 11
def valL (g : G) (begin : List Int) (state : List Bool) (seq : List (List Bool)) : List Bool := true :: (eithS begin state ++ runB g state seq)
/-- a state: data, nothing, or an own row -/
def IsSt (oc : Nat → O) (x : A) (st : List Bool) : Prop := x = .t (bL st) ∨ (st = [] ∧ x = .nilS) ∨ ∃ m, x = .row 1095 m ∧ oc 1095 = ⟨m, .row 4 1 (bC st)⟩
theorem runB_len (g : G) (hb : ∀ (s i : List Bool), s.length = g.next.length → (i.length : Int) = g.ins → ((valsG g s i).drop (firstN g)).length = g.ands.length) : ∀ (q : List (List Bool)) (s : List Bool), s.length = g.next.length → (∀ l ∈ q, (l.length : Int) = g.ins) → ((runB g s q).length : Int) = q.length * (g.ins + g.ands.length)
  | [], _, _, _ => by simp [runB]
  | i :: q, s, hs, h => by
    have h1 := h i List.mem_cons_self
    have ih := runB_len g hb q (nextV g (valsG g s i)) (by simp [nextV]) (fun l hl => h l (List.mem_cons_of_mem _ hl))
    have h2 := hb s i hs h1
    show ((i ++ (valsG g s i).drop (firstN g) ++ runB g (nextV g (valsG g s i)) q).length : Int) = _
    rw [List.length_append, List.length_append, h2, List.length_cons, show ((q.length + 1 : Nat) : Int) = (q.length : Int) + 1 from rfl, Int.add_mul, Int.one_mul, ← ih]
    omega
theorem vals_drop (g : G) (s i : List Bool) (hs : s.length = g.next.length) (hi : (i.length : Int) = g.ins) : ((valsG g s i).drop (firstN g)).length = g.ands.length := by
  rw [List.length_drop, valsG, vals_len, List.length_cons, List.length_append]
  unfold firstN
  omega
theorem eithS_len : ∀ (b : List Int) (s : List Bool), (eithS b s).length ≤ b.length
  | [], _ => by simp [eithS]
  | _ :: _, [] => by simp [eithS]
  | b :: bs, s :: ss => by
    have ih := eithS_len bs ss
    show (if b = 2 then s :: eithS bs ss else eithS bs ss).length ≤ _
    split <;> simp only [List.length_cons] <;> omega
end Go.Proofs.Ytpbfkpdfodmcaaa
