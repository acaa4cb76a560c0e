import Derived.Test.YtpbfkpdfodmcaaaG5
import Derived.Test.YtpbfkpdfodmcaaaI1
namespace Go.Proofs.Ytpbfkpdfodmcaaa
open Go.RowKit
set_option maxRecDepth 100000
set_option linter.unusedSimpArgs false
variable (Hy : World → Prop)
attribute [local irreducible] runM runD cwp seqQ blkQ lpQ retQ asQ bdQ
theorem back_cm (l : List (Int × Int)) (o : Nat → O) : Cm Try.prog Hy 102 [.t (pL l)] o fun rs o' => ∃ g, rs = [.fn 115 [] [.ptr 1001 g 0]] ∧ o' 1001 = ⟨g, .cells 23 [.t (pL l)]⟩ ∧ ∀ i, i < 1000 → o' i = o i := by
  refine cm_of (cls := fun d => 1000 + d) tt_ok follows_ Try.func102 rfl (by decide) (Nat.le_of_ble_eq_true rfl) ?_
  rw [show Try.f102.ntmps = 4 from rfl, s0_nf]
  simp only [List.zipIdx_cons, List.zipIdx_nil, List.map_cons, List.map_nil, Nat.reduceAdd, pL]
  repeat' first | refine c_seq ?_ | refine c_reg' rfl fun K hK => ?_ | (refine r_opN fun κ η => ?_; simp only [go_sem, Nat.reduceLT, Nat.reduceEqDiff, Nat.reduceAdd, Nat.reduceMul, Nat.reduceLeDiff, Nat.le_refl, reduceIte, reduceCtorEq]; refine η _ ?_; clear η κ) | (refine r_nil (hK _ ?_); clear hK K) | refine q_seq ?_ | refine c_ret ?_ | (refine q_ret ?_; refine q_r1 ?_; simp only [go_sem, Nat.reduceLT, Nat.reduceEqDiff, Nat.reduceAdd, Nat.reduceMul, Nat.reduceLeDiff, Nat.le_refl, reduceIte, reduceCtorEq])
  exact ⟨_, rfl, rfl, fun i hi => if_neg (by omega)⟩
/-- a mark -/
def mark1 (m : List Bool) (x : Int) : List Bool := m.set (x / 2).toNat true
/-- what one and hands on -/
def stepG (g : G) (m : List Bool) (k : Nat) : List Bool := if m.getD (g.first + k).toNat false = true then mark1 (mark1 m (g.ands.getD k (0, 0)).1) (g.ands.getD k (0, 0)).2 else m
/-- marks, after the last ands -/
def ledS (g : G) (m : List Bool) : Nat → List Bool
  | 0 => m
  | i + 1 => stepG g (ledS g m i) (g.ands.length - 1 - i)
def led0 (g : G) : List Bool := (g.next ++ g.outs).foldl mark1 (List.replicate (g.top + 1).toNat false)
def ledL (g : G) : List Bool := ledS g (led0 g) g.ands.length
theorem mark1_len (m : List Bool) (x : Int) : (mark1 m x).length = m.length := by simp [mark1]
theorem fold_len (l : List Int) (m : List Bool) : (l.foldl mark1 m).length = m.length := by
  induction l generalizing m with
  | nil => rfl
  | cons x l ih => rw [List.foldl_cons, ih, mark1_len]
theorem led0_len (g : G) : (led0 g).length = (g.top + 1).toNat := by rw [led0, fold_len, List.length_replicate]
theorem stepG_len (g : G) (m : List Bool) (k : Nat) : (stepG g m k).length = m.length := by
  unfold stepG
  split
  · rw [mark1_len, mark1_len]
  · rfl
theorem ledS_len (g : G) (m : List Bool) (i : Nat) : (ledS g m i).length = m.length := by
  induction i with
  | zero => rfl
  | succ i ih => rw [ledS, stepG_len, ih]
theorem ledL_len (g : G) : (ledL g).length = (g.top + 1).toNat := by rw [ledL, ledS_len, led0_len]
theorem backL_at {l : List (Int × Int)} {i : Nat} {xs : List T} (h : (backL l)[i]? = some xs) : ∃ k x, i + k + 1 = l.length ∧ l[k]? = some x ∧ l.getD k (0, 0) = x ∧ l.length - 1 - i = k ∧ xs = [.i .i64 (k : Int), .ag [.i .i64 x.1, .i .i64 x.2]] := by
  have hi : i < l.length := by
    have := (List.getElem?_eq_some_iff.1 h).1
    simpa [backL] using this
  obtain ⟨x, hx⟩ : ∃ x, l[l.length - 1 - i]? = some x := ⟨_, List.getElem?_eq_getElem (by omega)⟩
  have := backL_get (k := l.length - 1 - i) (by omega) hx
  rw [show l.length - 1 - (l.length - 1 - i) = i by omega, h] at this
  exact ⟨_, x, by omega, hx, by rw [List.getD_eq_getElem?_getD, hx]; rfl, rfl, Option.some.inj this⟩
theorem backL_two {l : List (Int × Int)} : ∀ x ∈ backL l, x.length = 2 := fun x hx => by
  obtain ⟨i, _, rfl⟩ := List.mem_map.1 hx
  rfl
def bC_ (l : List Bool) : List (List T) := l.map fun b => [.b b]
theorem bC_set (l : List Bool) (i : Nat) : (bC_ l).set i [.b true] = bC_ (l.set i true) := by simp [bC_, List.map_set]
theorem bC_len (l : List Bool) : (bC_ l).length = l.length := by simp [bC_]
theorem bC_get {l : List Bool} {i : Nat} (h : i < l.length) : (bC_ l)[i]? = some [.b (l.getD i false)] := by
  rw [bC_, List.getElem?_map, List.getElem?_eq_getElem h, List.getD_eq_getElem?_getD, List.getElem?_eq_getElem h]
  rfl
theorem bC_rep (n : Nat) : List.replicate n [T.b false] = bC_ (List.replicate n false) := by simp [bC_]
set_option maxHeartbeats 2000000 in
theorem led_ct (g : G) (h : g.Ok) (hs : g.top ≤ 4000 ∧ g.outs.length ≤ 4000 ∧ 0 ≤ g.ins) : Ct Try.prog Hy 71 [g.t] [bL (ledL g)] := by
  obtain ⟨s1, s2, s3⟩ := hs
  have ht : g.top = g.ins + g.next.length + g.ands.length := rfl
  have hff : g.first = 1 + g.ins + g.next.length := rfl
  have hgr := greatest_ct Hy g (by omega)
  rw [← ht] at hgr
  have hfi := firstAnd_ct Hy g (by omega)
  rw [← hff] at hfi
  have hcc := concatI_ct Hy [g.next, g.outs] (by simp) (by simp; omega)
  rw [show [g.next, g.outs].flatten = g.next ++ g.outs by simp] at hcc
  have hok : ∀ x ∈ g.next ++ g.outs, 0 ≤ x ∧ x ≤ 2 * g.top + 1 := fun x hx => (List.mem_append.1 hx).elim (fun e => of_decide_eq_true (h.n x e)) fun e => of_decide_eq_true (h.o x e)
  obtain ⟨L, hL⟩ : ∃ L, L = g.next ++ g.outs := ⟨_, rfl⟩
  rw [← hL] at hcc hok
  have hLl : L.length ≤ 8000 := by rw [hL, List.length_append]; omega
  have hn : (g.top + 1).toNat = (1 + g.top).toNat := by omega
  refine ct_of (cls := _root_.id) tt_ok follows_ Try.func71 rfl (by decide) (Nat.le_of_ble_eq_true rfl) ?_
  rw [show Try.f71.ntmps = 51 from rfl, s0_nf]
  simp only [List.zipIdx_cons, List.zipIdx_nil, List.map_cons, List.map_nil, Nat.reduceAdd, G.t, iL, pL]
  repeat' first | refine c_seq ?_ | refine c_reg' rfl fun K hK => ?_ | (refine r_opN fun κ η => ?_; simp only [go_sem, Nat.reduceLT, Nat.reduceEqDiff, Nat.reduceAdd, Nat.reduceMul, Nat.reduceLeDiff, Nat.le_refl, reduceIte, reduceCtorEq]; refine η _ ?_; clear η κ) | (refine r_nil (hK _ ?_); clear hK K) | refine q_seq ?_
  refine r_opN fun κ η => ?_; simp only [go_sem, Nat.reduceLT, Nat.reduceEqDiff, Nat.reduceAdd, Nat.reduceMul, Nat.reduceLeDiff, Nat.le_refl, reduceIte, reduceCtorEq, G.t, iL, pL]; refine ⟨_, hgr, ?_⟩; simp only [go_sem, Nat.reduceLT, Nat.reduceEqDiff, Nat.reduceAdd, Nat.reduceMul, Nat.reduceLeDiff, Nat.le_refl, reduceIte, reduceCtorEq, G.t, iL, pL]; refine η _ ?_; clear η κ
  repeat' first | refine c_seq ?_ | refine c_reg' rfl fun K hK => ?_ | (refine r_opN fun κ η => ?_; simp only [go_sem, Nat.reduceLT, Nat.reduceEqDiff, Nat.reduceAdd, Nat.reduceMul, Nat.reduceLeDiff, Nat.le_refl, reduceIte, reduceCtorEq]; (repeat refine ⟨by omega, ?_⟩); refine η _ ?_; clear η κ) | (refine r_nil (hK _ ?_); clear hK K) | refine q_seq ?_
  refine r_opN fun κ η => ?_; simp only [go_sem, Nat.reduceLT, Nat.reduceEqDiff, Nat.reduceAdd, Nat.reduceMul, Nat.reduceLeDiff, Nat.le_refl, reduceIte, reduceCtorEq, lL, iL]; refine ⟨_, hcc, ?_⟩; simp only [go_sem, Nat.reduceLT, Nat.reduceEqDiff, Nat.reduceAdd, Nat.reduceMul, Nat.reduceLeDiff, Nat.le_refl, reduceIte, reduceCtorEq, lL, iL]; refine η _ ?_; clear η κ
  repeat' first | refine c_block ?_ | (refine r_opN fun κ η => ?_; simp only [go_sem, Nat.reduceLT, Nat.reduceEqDiff, Nat.reduceAdd, Nat.reduceMul, Nat.reduceLeDiff, Nat.le_refl, reduceIte, reduceCtorEq]; refine η _ ?_; clear η κ) | (refine r_nil (hK _ ?_); clear hK K) | refine q_seq ?_
  refine c_loop (fun m s' => ∃ k : Nat, m = L.length - k ∧ k ≤ L.length ∧ ∃ F G0, s' = nf 51 F G0 [(1, .ptr 1 1 0), (3, .ptr 3 1 0), (17, .t (iL L)), (18, .t (.i .i64 L.length)), (19, .t (.i .i64 k))] [(11, ⟨1, .row 4 1 (bC_ ((L.take k).foldl mark1 (List.replicate (g.top + 1).toNat false)))⟩), (3, ⟨1, .cells 33 [.row 11 1]⟩), (1, ⟨1, .cells 25 g.cells⟩)]) L.length ?_ ?_
  · refine ⟨0, by omega, by omega, _, _, nf_of rfl ⟨rfl, rfl, rfl, rfl, rfl, trivial⟩ ⟨?_, rfl, rfl, trivial⟩⟩
    rw [List.take_zero, List.foldl_nil, ← bC_rep, hn]
    rfl
  rintro m s' ⟨k, rfl, hk, F, G0, rfl⟩
  simp only [iL, G.cells, pL]
  repeat' first | refine c_seq ?_ | refine c_reg' rfl fun K hK => ?_ | (refine r_opN fun κ η => ?_; simp only [go_sem, Nat.reduceLT, Nat.reduceEqDiff, Nat.reduceAdd, Nat.reduceMul, Nat.reduceLeDiff, Nat.le_refl, reduceIte, reduceCtorEq]; refine η _ ?_; clear η κ) | (refine r_nil (hK _ ?_); clear hK K) | refine q_seq ?_
  refine c_cond _ rfl (fun hq => ?_) (fun hq => ?_)
  · simp only [decide_eq_true_eq] at hq
    obtain ⟨x, hx⟩ : ∃ x, L[k]? = some x := ⟨_, List.getElem?_eq_getElem (by omega)⟩
    obtain ⟨x1, x2⟩ := hok x (List.mem_of_getElem? hx)
    have q1 := Int.tdiv_eq_ediv_of_nonneg x1 (b := 2)
    have hml : ((L.take k).foldl mark1 (List.replicate (g.top + 1).toNat false)).length = (g.top + 1).toNat := by rw [fold_len, List.length_replicate]
    have hsu : (L.take (k + 1)).foldl mark1 (List.replicate (g.top + 1).toNat false) = mark1 ((L.take k).foldl mark1 (List.replicate (g.top + 1).toNat false)) x := by rw [List.take_add_one, hx, List.foldl_append]; rfl
    generalize (L.take k).foldl mark1 (List.replicate (g.top + 1).toNat false) = M at *
    have hbl := bC_len M
    have hbg := bC_get (l := M) (i := (x / 2).toNat) (by omega)
    repeat' first | refine c_seq ?_ | refine c_block ?_ | refine c_reg' rfl fun K hK => ?_ | (refine r_opN fun κ η => ?_; simp only [go_sem, Nat.reduceLT, Nat.reduceEqDiff, Nat.reduceAdd, Nat.reduceMul, Nat.reduceLeDiff, Nat.le_refl, reduceIte, reduceCtorEq, hx, q1, hbl, hbg]; (repeat refine ⟨by omega, ?_⟩); refine η _ ?_; clear η κ) | (refine r_nil (hK _ ?_); clear hK K) | refine q_seq ?_ | refine q_blk ?_ | refine c_skip ?_ | refine q_lpN ?_
    exact ⟨L.length - (k + 1), by omega, k + 1, rfl, by omega, _, _, nf_of rfl ⟨rfl, rfl, rfl, rfl, rfl, trivial⟩ ⟨by rw [hsu, mark1, ← bC_set]; rfl, rfl, rfl, trivial⟩⟩
  simp only [decide_eq_false_iff_not] at hq
  obtain rfl : k = L.length := by omega
  rw [List.take_length, show L.foldl mark1 (List.replicate (g.top + 1).toNat false) = led0 g by rw [hL]; rfl]
  repeat' first | refine c_seq ?_ | refine c_reg' rfl fun K hK => ?_ | (refine r_opN fun κ η => ?_; simp only [go_sem, Nat.reduceLT, Nat.reduceEqDiff, Nat.reduceAdd, Nat.reduceMul, Nat.reduceLeDiff, Nat.le_refl, reduceIte, reduceCtorEq]; (repeat refine ⟨by omega, ?_⟩); refine η _ ?_; clear η κ) | refine q_seq ?_ | refine c_exit ?_ | refine q_seqE ?_ | refine q_blkHit ?_ | refine q_lpE ?_
  refine r_call fun κ η => ?_; simp only [go_sem, Nat.reduceLT, Nat.reduceEqDiff, Nat.reduceAdd, Nat.reduceMul, Nat.reduceLeDiff, Nat.le_refl, reduceIte, reduceCtorEq, pL]; refine ⟨_, back_cm Hy g.ands _, ?_⟩; rintro _ o2 ⟨gb, rfl, hgb, ho2⟩; simp only [go_sem, Nat.reduceLT, Nat.reduceEqDiff, Nat.reduceAdd, Nat.reduceMul, Nat.reduceLeDiff, Nat.le_refl, reduceIte, reduceCtorEq, pL]; refine η _ ?_; clear η κ
  have h11 : o2 11 = ⟨1, .row 4 1 (bC_ (led0 g))⟩ := ho2 11 (by decide)
  have h3 : o2 3 = ⟨1, .cells 33 [.row 11 1]⟩ := ho2 3 (by decide)
  have h1 : o2 1 = ⟨1, .cells 25 g.cells⟩ := ho2 1 (by decide)
  clear ho2
  repeat' first | refine c_block ?_ | (refine r_nil (hK _ ?_); clear hK K) | refine q_seq ?_
  refine c_range (fun i o' => o' 11 = ⟨1, .row 4 1 (bC_ (ledS g (led0 g) i))⟩ ∧ o' 3 = ⟨1, .cells 33 [.row 11 1]⟩ ∧ o' 1 = ⟨1, .cells 25 g.cells⟩ ∧ o' 1001 = o2 1001) rfl (back_it Hy g.ands (by omega) hgb) backL_two ⟨h11, h3, h1, rfl⟩ (fun i o' hi id hid => ?_) (fun i xs o' hx hi => ?_) (fun o' hi => ?_)
  · obtain rfl := List.mem_singleton.1 hid
    exact hi.2.2.2
  · obtain ⟨k, x, hk, hxk, hgd, hki, rfl⟩ := backL_at hx
    obtain ⟨i11, i3, i1, i1001⟩ := hi
    simp only [G.cells, iL, pL] at i1
    simp only [go_sem]
    repeat' first | refine c_seq ?_ | refine c_reg' rfl fun K hK => ?_ | (refine r_opN fun κ η => ?_; simp only [go_sem, Nat.reduceLT, Nat.reduceEqDiff, Nat.reduceAdd, Nat.reduceMul, Nat.reduceLeDiff, Nat.le_refl, reduceIte, reduceCtorEq, i11, i3, i1]; refine η _ ?_; clear η κ) | (refine r_nil (hK _ ?_); clear hK K) | refine q_seq ?_
    refine q_as ?_
    have hM : (ledS g (led0 g) i).length = (g.top + 1).toNat := by rw [ledS_len, led0_len]
    have hst : ledS g (led0 g) (i + 1) = stepG g (ledS g (led0 g) i) k := by rw [ledS, hki]
    obtain ⟨a1, a2⟩ := h.a k x hxk
    replace a1 := of_decide_eq_true a1
    replace a2 := of_decide_eq_true a2
    obtain ⟨M, hMe⟩ : ∃ M, M = ledS g (led0 g) i := ⟨_, rfl⟩
    rw [← hMe] at i11 hM hst
    have hbl := bC_len M
    have hbg := bC_get (l := M) (i := (g.first + k).toNat) (by omega)
    have q1 := Int.tdiv_eq_ediv_of_nonneg (a := x.1) (by omega) (b := 2)
    have q2 := Int.tdiv_eq_ediv_of_nonneg (a := x.2) (by omega) (b := 2)
    repeat' first | refine c_seq ?_ | refine c_block ?_ | refine c_draw' rfl (by kernel_rfl) fun K hK => ?_ | (refine d_opN (by kernel_rfl) fun κ η => ?_; simp only [go_sem, Nat.reduceLT, Nat.reduceEqDiff, Nat.reduceAdd, Nat.reduceMul, Nat.reduceLeDiff, Nat.le_refl, reduceIte, reduceCtorEq, i11, i3, i1]; refine η _ ?_; clear η κ)
    refine d_opN (by kernel_rfl) fun κ η => ?_; simp only [go_sem, Nat.reduceLT, Nat.reduceEqDiff, Nat.reduceAdd, Nat.reduceMul, Nat.reduceLeDiff, Nat.le_refl, reduceIte, reduceCtorEq, G.t, iL, pL]; refine ⟨_, hfi, ?_⟩; simp only [go_sem, Nat.reduceLT, Nat.reduceEqDiff, Nat.reduceAdd, Nat.reduceMul, Nat.reduceLeDiff, Nat.le_refl, reduceIte, reduceCtorEq, G.t, iL, pL]; refine η _ ?_; clear η κ
    repeat' first | (refine d_opN (by kernel_rfl) fun κ η => ?_; simp only [go_sem, Nat.reduceLT, Nat.reduceEqDiff, Nat.reduceAdd, Nat.reduceMul, Nat.reduceLeDiff, Nat.le_refl, reduceIte, reduceCtorEq, i11, i3, i1, hbl, hbg]; (repeat refine ⟨by omega, ?_⟩); refine η _ ?_; clear η κ) | refine q_seq ?_ | (refine d_nil (hK _ ?_); clear hK K)
    refine c_cond _ rfl (fun hq => ?_) (fun hq => ?_)
    · have hbg1 := bC_get (l := M) (i := (x.1 / 2).toNat) (by omega)
      have hb2 := bC_set M (x.1 / 2).toNat
      have hbl2 := bC_len (M.set (x.1 / 2).toNat true)
      have hbg2 := bC_get (l := M.set (x.1 / 2).toNat true) (i := (x.2 / 2).toNat) (by rw [List.length_set]; omega)
      repeat' first | refine c_draw' rfl (by kernel_rfl) fun K hK => ?_ | (refine d_opN (by kernel_rfl) fun κ η => ?_; simp only [go_sem, Nat.reduceLT, Nat.reduceEqDiff, Nat.reduceAdd, Nat.reduceMul, Nat.reduceLeDiff, Nat.le_refl, reduceIte, reduceCtorEq, i11, i3, i1, q1, q2, hbl, hbg1, hb2, hbl2, hbg2, List.length_set]; (repeat refine ⟨by omega, ?_⟩); refine η _ ?_; clear η κ) | (refine d_nil (hK _ ?_); clear hK K) | refine q_blk ?_
      refine q_bd ⟨?_, i3, i1, i1001⟩
      rw [hst, stepG, if_pos hq, hgd, mark1, mark1]
      exact congrArg (fun z => (⟨1, .row 4 1 z⟩ : O)) (bC_set _ _)
    · repeat' first | refine q_blk ?_ | refine c_skip ?_
      refine q_bd ⟨?_, i3, i1, i1001⟩
      rw [hst, stepG, if_neg (by rw [hq]; exact Bool.false_ne_true)]
      exact i11
  · obtain ⟨i11, i3, i1, i1001⟩ := hi
    rw [show (backL g.ands).length = g.ands.length by simp [backL]] at i11
    repeat' first | refine c_seq ?_ | refine c_reg' rfl fun K hK => ?_ | (refine r_opN fun κ η => ?_; simp only [go_sem, Nat.reduceLT, Nat.reduceEqDiff, Nat.reduceAdd, Nat.reduceMul, Nat.reduceLeDiff, Nat.le_refl, reduceIte, reduceCtorEq, i3, i11, bC_, bL, ledL]; refine η _ ?_; clear η κ) | (refine r_nil (hK _ ?_); clear hK K) | refine q_seq ?_ | refine q_blk ?_ | refine c_ret ?_ | (refine q_ret ?_; refine q_r1 ?_; simp only [go_sem, Nat.reduceLT, Nat.reduceEqDiff, Nat.reduceAdd, Nat.reduceMul, Nat.reduceLeDiff, Nat.le_refl, reduceIte, reduceCtorEq, i3, i11, bC_, bL, ledL])
end Go.Proofs.Ytpbfkpdfodmcaaa
