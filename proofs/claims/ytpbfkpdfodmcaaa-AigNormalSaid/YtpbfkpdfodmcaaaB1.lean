import Derived.Test.YtpbfkpdfodmcaaaA6
import Derived.Test.YtpbfkpdfodmcaaaA9
namespace Go.Proofs.Ytpbfkpdfodmcaaa
open Go.RowKit
set_option maxRecDepth 100000
set_option linter.unusedSimpArgs false
variable (Hy : World → Prop)
attribute [local irreducible] runM runD cwp seqQ blkQ lpQ retQ
def litV (v : List Bool) (a : Int) : Bool := v.getD (a / 2).toNat false != decide (a % 2 = 1)
def vstep (v : List Bool) (a : Int × Int) : List Bool := v ++ [litV v a.1 && litV v a.2]
def valsG (g : G) (state ins : List Bool) : List Bool := g.ands.foldl vstep (false :: (ins ++ state))
def valuesR (g : G) (state ins : List Bool) : List T :=
  if checkG g ≠ 0 then [.sl [], .i .i64 (checkG g)] else
  if state.length ≠ g.next.length ∨ (ins.length : Int) ≠ g.ins then [.sl [], .i .i64 11] else [bL (valsG g state ins), .i .i64 0]
def fitG (g : G) (state ins : List Bool) : Prop := checkG g = 0 ∧ state.length = g.next.length ∧ (ins.length : Int) = g.ins
theorem valuesR_good {g : G} {state ins : List Bool} (h : fitG g state ins) : valuesR g state ins = [bL (valsG g state ins), .i .i64 0] := by
  obtain ⟨h1, h2, h3⟩ := h
  unfold valuesR
  rw [if_neg (by omega), if_neg (by omega)]
theorem checkG_ok {g : G} (h : checkG g = 0) : (0 ≤ g.ins ∧ g.ins ≤ 4000 ∧ g.top ≤ 4000 ∧ (g.outs.length : Int) ≤ 4000) ∧ g.Ok := by
  by_cases hl : g.ins < 0 ∨ 4000 < g.ins ∨ 4000 < g.top ∨ 4000 < (g.outs.length : Int)
  · unfold checkG at h
    rw [if_pos hl] at h
    cases h
  · obtain ⟨_, h2⟩ := checkG_eq g hl
    by_cases ho : g.Ok
    · exact ⟨by omega, ho⟩
    · rw [h2 ho] at h
      cases h
theorem vals_len (l : List (Int × Int)) : ∀ v : List Bool, (l.foldl vstep v).length = v.length + l.length := by
  induction l with
  | nil => intro v; rfl
  | cons a l ih =>
    intro v
    rw [List.foldl_cons, ih, List.length_cons]
    unfold vstep
    rw [List.length_append, List.length_singleton]
    omega
theorem values_ct (g : G) (state ins : List Bool) (h : g.Small) (_ : state.length ≤ 140737488355328) (_ : ins.length ≤ 140737488355328) : Ct Try.prog Hy 24 [g.t, bL state, bL ins] (valuesR g state ins) := by
  have hck := check_ct Hy g h
  obtain ⟨h1, h2, h3, h4, h5, h6⟩ := h
  refine ct_of (cls := id) tt_ok follows_ Try.func24 rfl (by decide) (Nat.le_of_ble_eq_true rfl) ?_
  rw [show Try.f24.ntmps = 57 from rfl, s0_nf]
  simp only [List.zipIdx_cons, List.zipIdx_nil, List.map_cons, List.map_nil, Nat.reduceAdd, G.t, iL, pL, bL]
  repeat' first | refine c_seq ?_ | refine c_reg' rfl fun K hK => ?_ | (refine r_opN fun κ η => ?_; simp only [go_sem, Nat.reduceLT, Nat.reduceEqDiff, Nat.reduceAdd, Nat.reduceMul, Nat.reduceLeDiff, Nat.le_refl, reduceIte, reduceCtorEq]; refine η _ ?_; clear η κ) | (refine r_nil (hK _ ?_); clear hK K) | refine q_seq ?_
  refine r_opN fun κ η => ?_; simp only [go_sem, Nat.reduceLT, Nat.reduceEqDiff, Nat.reduceAdd, Nat.reduceMul, Nat.reduceLeDiff, Nat.le_refl, reduceIte, reduceCtorEq]; refine ⟨_, hck, ?_⟩; simp only [go_sem, Nat.reduceLT, Nat.reduceEqDiff, Nat.reduceAdd, Nat.reduceMul, Nat.reduceLeDiff, Nat.le_refl, reduceIte, reduceCtorEq]; refine η _ ?_; clear η κ
  repeat' first | refine c_seq ?_ | refine c_reg' rfl fun K hK => ?_ | (refine r_opN fun κ η => ?_; simp only [go_sem, Nat.reduceLT, Nat.reduceEqDiff, Nat.reduceAdd, Nat.reduceMul, Nat.reduceLeDiff, Nat.le_refl, reduceIte, reduceCtorEq]; refine η _ ?_; clear η κ) | (refine r_nil (hK _ ?_); clear hK K) | refine q_seq ?_
  refine c_cond _ rfl (fun hq => ?_) (fun hq => ?_)
  · simp only [Bool.not_eq_true', decide_eq_false_iff_not] at hq
    repeat' first | refine c_seq ?_ | refine c_reg' rfl fun K hK => ?_ | (refine r_opN fun κ η => ?_; simp only [go_sem, Nat.reduceLT, Nat.reduceEqDiff, Nat.reduceAdd, Nat.reduceMul, Nat.reduceLeDiff, Nat.le_refl, reduceIte, reduceCtorEq]; refine η _ ?_; clear η κ) | (refine r_nil (hK _ ?_); clear hK K) | refine q_seq ?_ | refine c_ret ?_ | refine q_seqR ?_ | (refine q_ret ?_; refine q_r1 ?_; simp only [go_sem, Nat.reduceLT, Nat.reduceEqDiff, Nat.reduceAdd, Nat.reduceMul, Nat.reduceLeDiff, Nat.le_refl, reduceIte, reduceCtorEq])
    rw [valuesR, if_pos hq]
  simp only [Bool.not_eq_false', decide_eq_true_eq] at hq
  obtain ⟨⟨l1, l2, l3, l4⟩, hok⟩ := checkG_ok hq
  have l3' := l3
  unfold G.top at l3'
  rw [valuesR, if_neg (by omega)]
  clear hck
  by_cases c0 : ¬ (state.length : Int) = g.next.length
  · repeat' first | refine c_seq ?_ | refine c_reg' rfl fun K hK => ?_ | ((first | refine r_opN fun κ η => ?_ | refine r_opG rfl fun κ η => ?_); simp only [go_sem, Nat.reduceLT, Nat.reduceEqDiff, Nat.reduceAdd, Nat.reduceMul, Nat.reduceLeDiff, Nat.le_refl, reduceIte, reduceCtorEq, c0]; (repeat refine ⟨by omega, ?_⟩); refine η _ ?_; clear η κ) | (refine r_nil (hK _ ?_); clear hK K) | refine q_seq ?_ | refine c_skip ?_
    refine c_cond _ rfl (fun hq => ?_) (fun hq => (by cases hq))
    repeat' first | refine c_seq ?_ | refine c_reg' rfl fun K hK => ?_ | (refine r_opN fun κ η => ?_; simp only [go_sem, Nat.reduceLT, Nat.reduceEqDiff, Nat.reduceAdd, Nat.reduceMul, Nat.reduceLeDiff, Nat.le_refl, reduceIte, reduceCtorEq]; refine η _ ?_; clear η κ) | (refine r_nil (hK _ ?_); clear hK K) | refine q_seq ?_ | refine c_ret ?_ | refine q_seqR ?_ | (refine q_ret ?_; refine q_r1 ?_; simp only [go_sem, Nat.reduceLT, Nat.reduceEqDiff, Nat.reduceAdd, Nat.reduceMul, Nat.reduceLeDiff, Nat.le_refl, reduceIte, reduceCtorEq])
    rw [if_pos (.inl (by omega))]
  have c1 : (state.length : Int) = g.next.length := by omega
  clear c0
  have c2 : ((state.length : Int) = g.next.length) = True := eq_true c1
  repeat' first | refine c_seq ?_ | refine c_reg' rfl fun K hK => ?_ | ((first | refine r_opN fun κ η => ?_ | refine r_opG rfl fun κ η => ?_); simp only [go_sem, Nat.reduceLT, Nat.reduceEqDiff, Nat.reduceAdd, Nat.reduceMul, Nat.reduceLeDiff, Nat.le_refl, reduceIte, reduceCtorEq, c2]; (repeat refine ⟨by omega, ?_⟩); refine η _ ?_; clear η κ) | (refine r_nil (hK _ ?_); clear hK K) | refine q_seq ?_ | refine c_skip ?_
  refine c_cond _ rfl (fun hq2 => ?_) (fun hq2 => ?_)
  · simp only [Bool.not_eq_true', decide_eq_false_iff_not] at hq2
    repeat' first | refine c_seq ?_ | refine c_reg' rfl fun K hK => ?_ | (refine r_opN fun κ η => ?_; simp only [go_sem, Nat.reduceLT, Nat.reduceEqDiff, Nat.reduceAdd, Nat.reduceMul, Nat.reduceLeDiff, Nat.le_refl, reduceIte, reduceCtorEq]; refine η _ ?_; clear η κ) | (refine r_nil (hK _ ?_); clear hK K) | refine q_seq ?_ | refine c_ret ?_ | refine q_seqR ?_ | (refine q_ret ?_; refine q_r1 ?_; simp only [go_sem, Nat.reduceLT, Nat.reduceEqDiff, Nat.reduceAdd, Nat.reduceMul, Nat.reduceLeDiff, Nat.le_refl, reduceIte, reduceCtorEq])
    rw [if_pos (.inr hq2)]
  simp only [Bool.not_eq_false', decide_eq_true_eq] at hq2
  rw [if_neg (by omega)]
  repeat' first | refine c_seq ?_ | refine c_reg' rfl fun K hK => ?_ | (refine r_opN fun κ η => ?_; simp only [go_sem, Nat.reduceLT, Nat.reduceEqDiff, Nat.reduceAdd, Nat.reduceMul, Nat.reduceLeDiff, Nat.le_refl, reduceIte, reduceCtorEq]; refine η _ ?_; clear η κ) | refine q_seq ?_ | refine c_skip ?_
  refine r_call (fun K' hK' => ?_)
  simp only [go_sem, Nat.reduceLT, Nat.reduceEqDiff, Nat.reduceAdd, Nat.reduceMul, Nat.reduceLeDiff, reduceIte, reduceCtorEq]
  refine ⟨_, concat_cm Hy [[[.b false]], ins.map fun x => [.b x], state.map fun x => [.b x]] [.row 30 _, .t (.sl (ins.map fun x => [.b x])), .t (.sl (state.map fun x => [.b x]))] _ (by omega) rfl rfl ?_ ?_ ?_, ?_⟩
  · intro k x l hx hl
    match k, hx, hl with
    | 0, hx, hl =>
      simp only [List.getElem?_cons_zero, Option.some.injEq] at hx hl
      subst hx hl
      exact ⟨.inr ⟨30, _, rfl, rfl, by omega⟩, by simp⟩
    | 1, hx, hl =>
      simp only [List.getElem?_cons_zero, List.getElem?_cons_succ, Option.some.injEq] at hx hl
      subst hx hl
      exact ⟨.inl rfl, fun e he => by obtain ⟨b, _, rfl⟩ := List.mem_map.1 he; rfl⟩
    | 2, hx, hl =>
      simp only [List.getElem?_cons_zero, List.getElem?_cons_succ, Option.some.injEq] at hx hl
      subst hx hl
      exact ⟨.inl rfl, fun e he => by obtain ⟨b, _, rfl⟩ := List.mem_map.1 he; rfl⟩
    | k + 3, hx, hl => simp at hx
  · simp
    omega
  · simp
  rintro _ o2 ⟨gv, rfl, hgv, hsame⟩
  simp only [go_sem, Nat.reduceLT, Nat.reduceEqDiff, Nat.reduceAdd, Nat.reduceMul, Nat.reduceLeDiff, reduceIte, reduceCtorEq]
  refine hK' _ ?_
  clear hK' K'
  have hg3 : o2 3 = ⟨1, .cells 25 g.cells⟩ := hsame 3 (by omega)
  have hfl : [[[T.b false]], ins.map fun x => [T.b x], state.map fun x => [T.b x]].flatten = (false :: (ins ++ state)).map fun x => [T.b x] := by simp
  rw [hfl] at hgv
  clear hfl
  repeat' first | refine c_seq ?_ | refine c_block ?_ | refine c_reg' rfl fun K hK => ?_ | (refine r_opN fun κ η => ?_; simp only [go_sem, Nat.reduceLT, Nat.reduceEqDiff, Nat.reduceAdd, Nat.reduceMul, Nat.reduceLeDiff, Nat.le_refl, reduceIte, reduceCtorEq, hg3, G.cells, pL]; (repeat refine ⟨by omega, ?_⟩); refine η _ ?_; clear η κ) | (refine r_nil (hK _ ?_); clear hK K) | refine q_seq ?_
  refine c_loop (fun m s' => ∃ k, m = g.ands.length - k ∧ k ≤ g.ands.length ∧ ∃ F G0 gk, s' = nf 57 F G0 [(9, .row 2022 gk), (36, .t (pL g.ands)), (37, .t (.i .i64 g.ands.length)), (38, .t (.i .i64 k))] [(2022, ⟨gk, .row 4 1 (((g.ands.take k).foldl vstep (false :: (ins ++ state))).map fun x => [T.b x])⟩)]) g.ands.length ?_ ?_
  · exact ⟨0, by omega, by omega, _, _, gv, nf_of rfl ⟨rfl, rfl, rfl, rfl, trivial⟩ ⟨hgv, trivial⟩⟩
  rintro m s' ⟨k, rfl, hk, F, G0, gk, rfl⟩
  have hvl := vals_len (g.ands.take k) (false :: (ins ++ state))
  rw [List.length_take, Nat.min_eq_left hk, List.length_cons, List.length_append] at hvl
  simp only [pL]
  repeat' first | refine c_seq ?_ | refine c_reg' rfl fun K hK => ?_ | (refine r_opN fun κ η => ?_; simp only [go_sem, Nat.reduceLT, Nat.reduceEqDiff, Nat.reduceAdd, Nat.reduceMul, Nat.reduceLeDiff, Nat.le_refl, reduceIte, reduceCtorEq]; refine η _ ?_; clear η κ) | (refine r_nil (hK _ ?_); clear hK K) | refine q_seq ?_
  refine c_cond _ rfl (fun hq3 => ?_) (fun hq3 => ?_)
  · simp only [decide_eq_true_eq] at hq3
    obtain ⟨x, hx⟩ : ∃ x, g.ands[k]? = some x := ⟨_, List.getElem?_eq_getElem (by omega)⟩
    obtain ⟨p1, p2⟩ := hok.a k x hx
    replace p1 := of_decide_eq_true p1
    replace p2 := of_decide_eq_true p2
    simp only [G.first] at p1 p2
    have htk : (g.ands.take (k + 1)).foldl vstep (false :: (ins ++ state)) = vstep ((g.ands.take k).foldl vstep (false :: (ins ++ state))) x := by
      rw [List.take_add_one, hx, List.foldl_append]
      rfl
    generalize hv : (g.ands.take k).foldl vstep (false :: (ins ++ state)) = v at hvl htk
    have w1 : Ct Try.prog Hy 75 [bL v, .i .i64 x.1] [.b (litV v x.1)] := value_ct Hy v x.1 (by omega) (by omega)
    have w2 : Ct Try.prog Hy 75 [bL v, .i .i64 x.2] [.b (litV v x.2)] := value_ct Hy v x.2 (by omega) (by omega)
    have hlen : v.length ≤ 10000 := by omega
    have step : ∀ (q : Bool), q = (litV v x.1 && litV v x.2) → (v.map fun x => [T.b x]) ++ [[T.b q]] = ((g.ands.take (k + 1)).foldl vstep (false :: (ins ++ state))).map fun x => [T.b x] := fun q hq => by
      rw [htk, vstep, List.map_append, ← hq]
      rfl
    repeat' first | refine c_seq ?_ | refine c_block ?_ | refine c_reg' rfl fun K hK => ?_ | (refine r_opN fun κ η => ?_; simp only [go_sem, Nat.reduceLT, Nat.reduceEqDiff, Nat.reduceAdd, Nat.reduceMul, Nat.reduceLeDiff, Nat.le_refl, reduceIte, reduceCtorEq, hx]; (repeat refine ⟨by omega, ?_⟩); refine η _ ?_; clear η κ) | (refine r_nil (hK _ ?_); clear hK K) | refine q_seq ?_ | refine c_skip ?_
    refine r_opN fun κ η => ?_; simp only [go_sem, Nat.reduceLT, Nat.reduceEqDiff, Nat.reduceAdd, Nat.reduceMul, Nat.reduceLeDiff, Nat.le_refl, reduceIte, reduceCtorEq, hx]; refine ⟨_, w1, ?_⟩; simp only [go_sem, Nat.reduceLT, Nat.reduceEqDiff, Nat.reduceAdd, Nat.reduceMul, Nat.reduceLeDiff, Nat.le_refl, reduceIte, reduceCtorEq, hx]; refine η _ ?_; clear η κ
    cases d1 : litV v x.1
    · repeat' first | refine c_reg' rfl fun K hK => ?_ | ((first | refine r_opN fun κ η => ?_ | refine r_opG rfl fun κ η => ?_); simp only [go_sem, Nat.reduceLT, Nat.reduceEqDiff, Nat.reduceAdd, Nat.reduceMul, Nat.reduceLeDiff, Nat.le_refl, reduceIte, reduceCtorEq, hx]; (repeat refine ⟨by omega, ?_⟩); refine η _ ?_; clear η κ) | (refine r_nil (hK _ ?_); clear hK K) | refine q_seq ?_ | refine q_blk ?_ | refine q_lpN ?_
      exact ⟨g.ands.length - (k + 1), by omega, k + 1, rfl, by omega, _, _, _, nf_of rfl ⟨rfl, rfl, rfl, rfl, trivial⟩ ⟨by rw [← step false (by rw [d1]; rfl)]; rfl, trivial⟩⟩
    · repeat' ((first | refine r_opN fun κ η => ?_ | refine r_opG rfl fun κ η => ?_); simp only [go_sem, Nat.reduceLT, Nat.reduceEqDiff, Nat.reduceAdd, Nat.reduceMul, Nat.reduceLeDiff, Nat.le_refl, reduceIte, reduceCtorEq, hx]; (repeat refine ⟨by omega, ?_⟩); refine η _ ?_; clear η κ)
      refine r_opG rfl fun κ η => ?_; simp only [go_sem, Nat.reduceLT, Nat.reduceEqDiff, Nat.reduceAdd, Nat.reduceMul, Nat.reduceLeDiff, Nat.le_refl, reduceIte, reduceCtorEq, hx]; refine ⟨_, w2, ?_⟩; simp only [go_sem, Nat.reduceLT, Nat.reduceEqDiff, Nat.reduceAdd, Nat.reduceMul, Nat.reduceLeDiff, Nat.le_refl, reduceIte, reduceCtorEq, hx]; refine η _ ?_; clear η κ
      repeat' first | refine c_reg' rfl fun K hK => ?_ | (refine r_opN fun κ η => ?_; simp only [go_sem, Nat.reduceLT, Nat.reduceEqDiff, Nat.reduceAdd, Nat.reduceMul, Nat.reduceLeDiff, Nat.le_refl, reduceIte, reduceCtorEq, hx]; (repeat refine ⟨by omega, ?_⟩); refine η _ ?_; clear η κ) | (refine r_nil (hK _ ?_); clear hK K) | refine q_seq ?_ | refine q_blk ?_ | refine q_lpN ?_
      exact ⟨g.ands.length - (k + 1), by omega, k + 1, rfl, by omega, _, _, _, nf_of rfl ⟨rfl, rfl, rfl, rfl, trivial⟩ ⟨by rw [← step (litV v x.2) (by rw [d1]; rfl)]; rfl, trivial⟩⟩
  · simp only [decide_eq_false_iff_not] at hq3
    have hkl : k = g.ands.length := by omega
    subst hkl
    rw [List.take_length]
    repeat' first | refine c_seq ?_ | refine c_reg' rfl fun K hK => ?_ | (refine r_opN fun κ η => ?_; simp only [go_sem, Nat.reduceLT, Nat.reduceEqDiff, Nat.reduceAdd, Nat.reduceMul, Nat.reduceLeDiff, Nat.le_refl, reduceIte, reduceCtorEq]; refine η _ ?_; clear η κ) | (refine r_nil (hK _ ?_); clear hK K) | refine q_seq ?_ | refine c_exit ?_ | refine c_ret ?_ | refine q_seqE ?_ | refine q_blkHit ?_ | refine q_lpE ?_ | (refine q_ret ?_; refine q_r1 ?_; simp only [go_sem, Nat.reduceLT, Nat.reduceEqDiff, Nat.reduceAdd, Nat.reduceMul, Nat.reduceLeDiff, Nat.le_refl, reduceIte, reduceCtorEq])
    rfl
end Go.Proofs.Ytpbfkpdfodmcaaa
