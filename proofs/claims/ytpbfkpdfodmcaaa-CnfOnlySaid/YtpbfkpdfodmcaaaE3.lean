import Derived.Test.YtpbfkpdfodmcaaaE2
namespace Go.Proofs.Ytpbfkpdfodmcaaa
open Go.RowKit
set_option maxRecDepth 100000
set_option linter.unusedSimpArgs false
variable (Hy : World → Prop)
attribute [local irreducible] runM runD cwp seqQ blkQ lpQ retQ
def begV (begin : List Int) (i : Nat) : Int := if begin.getD i 0 = 0 then -1 else if begin.getD i 0 = 1 then 1 else 1 + eithN (begin.take (i + 1))
def firstF (g : G) (begin : List Int) (i j : Nat) : Int := if j = 0 then -1 else if g.ins.toNat < j ∧ j < 1 + g.ins.toNat + i then begV begin (j - 1 - g.ins.toNat) else 0
theorem firstF_succ (g : G) (begin : List Int) (i : Nat) : (fun j => if j = 1 + g.ins.toNat + i then begV begin i else firstF g begin i j) = firstF g begin (i + 1) := by
  funext j
  unfold firstF
  by_cases h : j = 1 + g.ins.toNat + i
  · rw [if_pos h, if_neg (by omega), if_pos (by omega), show j - 1 - g.ins.toNat = i by omega]
  · rw [if_neg h]
    by_cases h0 : j = 0
    · rw [if_pos h0, if_pos h0]
    · rw [if_neg h0, if_neg h0]
      by_cases h1 : g.ins.toNat < j ∧ j < 1 + g.ins.toNat + i
      · rw [if_pos h1, if_pos (by omega)]
      · rw [if_neg h1, if_neg (by omega)]
theorem firstF_zero (g : G) (begin : List Int) : firstF g begin 0 = fun j => if j = 0 then -1 else 0 := by
  funext j
  unfold firstF
  by_cases h0 : j = 0
  · rw [if_pos h0, if_pos h0]
  · rw [if_neg h0, if_neg h0, if_neg (by omega)]
theorem iC_len (l : List Int) : (iC l).length = l.length := by simp [iC]
theorem iC_get {l : List Int} {j : Nat} {x : Int} (h : l[j]? = some x) : (iC l)[j]? = some [.i .i64 x] := by simp [iC, h]
structure NbI (g : G) (begin : List Int) (N nb n k g2 : Nat) (o : Nat → O) (i : Nat) (oc : Nat → O) : Prop where
  bd : Bd oc nb g (1 + eithN (begin.take i)) [[1]] (.row 902 n)
  lt : oc 902 = ⟨n, .rowA 22 1 [[.row 10000 k]]⟩
  rw_ : oc 10000 = ⟨k, .row 3 1 (iC (mk N (firstF g begin i)))⟩
  gb : oc 1002 = ⟨g2, .cells 25 g.cells⟩
  fr : Fr 1000 o oc [900, 901, 902, 10000]
theorem newb_cm (g : G) (begin : List Int) (o : Nat → O) (hb : begin.length = g.next.length) (hbad : begin.any badB = false) (hg : 0 ≤ g.ins ∧ g.ins + g.next.length + g.ands.length ≤ 4000) {N : Nat} (hN : (N : Int) = 1 + g.ins + g.next.length + g.ands.length) :
    Cm Try.prog Hy 91 [.ag g.cells, .t (iL begin)] o fun rs o' => ∃ nb n k, rs = [.ptr 900 nb 0] ∧ Bd o' nb g (1 + eithN begin) [[1]] (.row 902 n) ∧ o' 902 = ⟨n, .rowA 22 1 [[.row 10000 k]]⟩ ∧
      o' 10000 = ⟨k, .row 3 1 (iC (mk N (firstF g begin begin.length)))⟩ ∧ Fr 1000 o o' [900, 901, 902, 10000] := by
  refine cm_of (cls := fun d => if d = 12 then 900 else 1000 + d) tt_ok follows_ Try.func91 rfl (by decide) (Nat.le_of_ble_eq_true rfl) ?_
  rw [show Try.f91.ntmps = 50 from rfl, s0_nf]
  simp only [List.zipIdx_cons, List.zipIdx_nil, List.map_cons, List.map_nil, Nat.reduceAdd, G.cells, iL, pL]
  repeat' first | refine c_seq ?_ | refine c_block ?_ | refine c_reg' rfl fun K hK => ?_ | refine c_draw' rfl (by kernel_rfl) fun K hK => ?_ | ((first | refine r_opN fun κ η => ?_ | refine r_opG rfl fun κ η => ?_ | refine d_opN (by kernel_rfl) fun κ η => ?_ | refine d_opG (by kernel_rfl) rfl fun κ η => ?_); simp only [go_sem, Nat.reduceLT, Nat.reduceEqDiff, Nat.reduceAdd, Nat.reduceMul, Nat.reduceLeDiff, Nat.le_refl, reduceIte, reduceCtorEq]; (repeat refine ⟨by (first | omega | assumption | exact ⟨_, rfl⟩ | exact ⟨_, rfl, rfl⟩), ?_⟩); refine η _ ?_; clear η κ) | (refine r_nil (hK _ ?_); clear hK K) | refine q_seq ?_ | (refine d_nil (hK _ ?_); clear hK K) | refine q_blk ?_ | refine c_skip ?_ | refine c_exit ?_ | refine c_ret ?_ | refine q_seqE ?_ | refine q_blkHit ?_ | refine q_blkMiss rfl ?_ | refine q_lpE ?_ | refine q_seqR ?_ | refine q_blkR ?_ | refine q_lpR ?_ | refine q_lpN ?_ | ((first | refine q_ret ?_ | refine q_end ?_); (first | refine q_r1 ?_ | refine q_rc ?_ | refine q_r0 ?_); simp only [go_sem, Nat.reduceLT, Nat.reduceEqDiff, Nat.reduceAdd, Nat.reduceMul, Nat.reduceLeDiff, Nat.le_refl, reduceIte, reduceCtorEq])
  refine r_call fun κ η => ?_; simp only [go_sem, Nat.reduceLT, Nat.reduceEqDiff, Nat.reduceAdd, Nat.reduceMul, Nat.reduceLeDiff, Nat.le_refl, reduceIte, reduceCtorEq]; refine ⟨_, variable_cm Hy (g := g) (v := 0) (cls := []) (lits := .nilS) ⟨.nilS, rfl, .inl ⟨rfl, rfl⟩⟩ (by decide), ?_⟩; rintro _ o1 ⟨rfl, hB1, hF1⟩; simp only [go_sem, Nat.reduceLT, Nat.reduceEqDiff, Nat.reduceAdd, Nat.reduceMul, Nat.reduceLeDiff, Nat.le_refl, reduceIte, reduceCtorEq]; refine η _ ?_; clear η κ
  repeat' first | refine c_seq ?_ | refine c_block ?_ | refine c_reg' rfl fun K hK => ?_ | refine c_draw' rfl (by kernel_rfl) fun K hK => ?_ | ((first | refine r_opN fun κ η => ?_ | refine r_opG rfl fun κ η => ?_ | refine d_opN (by kernel_rfl) fun κ η => ?_ | refine d_opG (by kernel_rfl) rfl fun κ η => ?_); simp only [go_sem, Nat.reduceLT, Nat.reduceEqDiff, Nat.reduceAdd, Nat.reduceMul, Nat.reduceLeDiff, Nat.le_refl, reduceIte, reduceCtorEq]; (repeat refine ⟨by (first | omega | assumption | exact ⟨_, rfl⟩ | exact ⟨_, rfl, rfl⟩), ?_⟩); refine η _ ?_; clear η κ) | (refine r_nil (hK _ ?_); clear hK K) | refine q_seq ?_ | (refine d_nil (hK _ ?_); clear hK K) | refine q_blk ?_ | refine c_skip ?_ | refine c_exit ?_ | refine c_ret ?_ | refine q_seqE ?_ | refine q_blkHit ?_ | refine q_blkMiss rfl ?_ | refine q_lpE ?_ | refine q_seqR ?_ | refine q_blkR ?_ | refine q_lpR ?_ | refine q_lpN ?_ | ((first | refine q_ret ?_ | refine q_end ?_); (first | refine q_r1 ?_ | refine q_rc ?_ | refine q_r0 ?_); simp only [go_sem, Nat.reduceLT, Nat.reduceEqDiff, Nat.reduceAdd, Nat.reduceMul, Nat.reduceLeDiff, Nat.le_refl, reduceIte, reduceCtorEq])
  refine r_call fun κ η => ?_; simp only [go_sem, Nat.reduceLT, Nat.reduceEqDiff, Nat.reduceAdd, Nat.reduceMul, Nat.reduceLeDiff, Nat.le_refl, reduceIte, reduceCtorEq]; refine ⟨_, add_cm Hy (c := [1]) (by exact hB1.keep rfl rfl) (by rfl) (by decide) (by decide), ?_⟩; rintro _ o2 ⟨rfl, hB2, hF2⟩; simp only [go_sem, Nat.reduceLT, Nat.reduceEqDiff, Nat.reduceAdd, Nat.reduceMul, Nat.reduceLeDiff, Nat.le_refl, reduceIte, reduceCtorEq]; refine η _ ?_; clear η κ
  repeat' first | refine c_seq ?_ | refine c_block ?_ | refine c_reg' rfl fun K hK => ?_ | refine c_draw' rfl (by kernel_rfl) fun K hK => ?_ | ((first | refine r_opN fun κ η => ?_ | refine r_opG rfl fun κ η => ?_ | refine d_opN (by kernel_rfl) fun κ η => ?_ | refine d_opG (by kernel_rfl) rfl fun κ η => ?_); simp only [go_sem, Nat.reduceLT, Nat.reduceEqDiff, Nat.reduceAdd, Nat.reduceMul, Nat.reduceLeDiff, Nat.le_refl, reduceIte, reduceCtorEq]; (repeat refine ⟨by (first | omega | assumption | exact ⟨_, rfl⟩ | exact ⟨_, rfl, rfl⟩), ?_⟩); refine η _ ?_; clear η κ) | (refine r_nil (hK _ ?_); clear hK K) | refine q_seq ?_ | (refine d_nil (hK _ ?_); clear hK K) | refine q_blk ?_ | refine c_skip ?_ | refine c_exit ?_ | refine c_ret ?_ | refine q_seqE ?_ | refine q_blkHit ?_ | refine q_blkMiss rfl ?_ | refine q_lpE ?_ | refine q_seqR ?_ | refine q_blkR ?_ | refine q_lpR ?_ | refine q_lpN ?_ | ((first | refine q_ret ?_ | refine q_end ?_); (first | refine q_r1 ?_ | refine q_rc ?_ | refine q_r0 ?_); simp only [go_sem, Nat.reduceLT, Nat.reduceEqDiff, Nat.reduceAdd, Nat.reduceMul, Nat.reduceLeDiff, Nat.le_refl, reduceIte, reduceCtorEq])
  refine r_call fun κ η => ?_; simp only [go_sem, Nat.reduceLT, Nat.reduceEqDiff, Nat.reduceAdd, Nat.reduceMul, Nat.reduceLeDiff, Nat.le_refl, reduceIte, reduceCtorEq]; refine ⟨_, row_cm Hy (m := []) (r := 10000) (N := N) hB2 (.inl ⟨rfl, rfl⟩) (by decide) hg (by decide) hN, ?_⟩; rintro _ o3 ⟨n, k, rfl, hB3, hL3, hR3, hF3⟩; simp only [go_sem, Nat.reduceLT, Nat.reduceEqDiff, Nat.reduceAdd, Nat.reduceMul, Nat.reduceLeDiff, Nat.le_refl, reduceIte, reduceCtorEq]; refine η _ ?_; clear η κ
  have g3 : o3 1002 = ⟨(o 1002).gen + 1, .cells 25 g.cells⟩ := by
    rw [hF3 1002 (by decide) (by decide), hF2 1002 (by decide) (by decide)]
    exact hF1 1002 (by decide) (by decide)
  have f3 : Fr 1000 o o3 [900, 901, 902, 10000] := fun i hi hS => by
    simp only [List.mem_cons, List.not_mem_nil, or_false, not_or] at hS
    rw [hF3 i (by omega) (by simp; omega), hF2 i (by omega) (by simp; omega)]
    show (if i = 1016 then _ else o1 i) = o i
    rw [if_neg (by omega), hF1 i (by omega) (by simp; omega)]
    exact lookO_other (by simp; omega)
  repeat' first | refine c_seq ?_ | refine c_block ?_ | refine c_reg' rfl fun K hK => ?_ | refine c_draw' rfl (by kernel_rfl) fun K hK => ?_ | ((first | refine r_opN fun κ η => ?_ | refine r_opG rfl fun κ η => ?_ | refine d_opN (by kernel_rfl) fun κ η => ?_ | refine d_opG (by kernel_rfl) rfl fun κ η => ?_); simp only [go_sem, Nat.reduceLT, Nat.reduceEqDiff, Nat.reduceAdd, Nat.reduceMul, Nat.reduceLeDiff, Nat.le_refl, reduceIte, reduceCtorEq]; (repeat refine ⟨by (first | omega | assumption | exact ⟨_, rfl⟩ | exact ⟨_, rfl, rfl⟩), ?_⟩); refine η _ ?_; clear η κ) | (refine r_nil (hK _ ?_); clear hK K) | refine q_seq ?_ | (refine d_nil (hK _ ?_); clear hK K) | refine q_blk ?_ | refine c_skip ?_ | refine c_exit ?_ | refine c_ret ?_ | refine q_seqE ?_ | refine q_blkHit ?_ | refine q_blkMiss rfl ?_ | refine q_lpE ?_ | refine q_seqR ?_ | refine q_blkR ?_ | refine q_lpR ?_ | refine q_lpN ?_ | ((first | refine q_ret ?_ | refine q_end ?_); (first | refine q_r1 ?_ | refine q_rc ?_ | refine q_r0 ?_); simp only [go_sem, Nat.reduceLT, Nat.reduceEqDiff, Nat.reduceAdd, Nat.reduceMul, Nat.reduceLeDiff, Nat.le_refl, reduceIte, reduceCtorEq])
  refine c_loop (fun m s' => ∃ i : Nat, m = begin.length - i ∧ i ≤ begin.length ∧ ∃ F oc, s' = nf 50 F oc [(2, .ptr 1002 ((o 1002).gen + 1) 0), (5, .ptr 900 ((o 900).gen + 1) 0), (6, .row 10000 k), (20, .t (iL begin)), (21, .t (.i .i64 begin.length)), (22, .t (.i .i64 i))] [] ∧ NbI g begin N ((o 900).gen + 1) n k ((o 1002).gen + 1) o i oc) begin.length ?_ ?_
  · refine ⟨0, by omega, by omega, _, _, nf_of rfl ⟨rfl, rfl, rfl, rfl, rfl, rfl, trivial⟩ trivial, ⟨hB3, hL3, ?_, g3, f3⟩⟩
    exact hR3.trans (by rw [firstF_zero])
  rintro m s' ⟨i, rfl, hi, F, oc, rfl, hI⟩
  have hgb := hI.gb
  have hrw := hI.rw_
  simp only [iL, G.cells, pL] at hgb ⊢
  repeat' first | refine c_seq ?_ | refine c_block ?_ | refine c_reg' rfl fun K hK => ?_ | refine c_draw' rfl (by kernel_rfl) fun K hK => ?_ | ((first | refine r_opN fun κ η => ?_ | refine r_opG rfl fun κ η => ?_ | refine d_opN (by kernel_rfl) fun κ η => ?_ | refine d_opG (by kernel_rfl) rfl fun κ η => ?_); simp only [go_sem, Nat.reduceLT, Nat.reduceEqDiff, Nat.reduceAdd, Nat.reduceMul, Nat.reduceLeDiff, Nat.le_refl, reduceIte, reduceCtorEq]; (repeat refine ⟨by (first | omega | assumption | exact ⟨_, rfl⟩ | exact ⟨_, rfl, rfl⟩), ?_⟩); refine η _ ?_; clear η κ) | (refine r_nil (hK _ ?_); clear hK K) | refine q_seq ?_ | (refine d_nil (hK _ ?_); clear hK K) | refine q_blk ?_ | refine c_skip ?_ | refine c_exit ?_ | refine c_ret ?_ | refine q_seqE ?_ | refine q_blkHit ?_ | refine q_blkMiss rfl ?_ | refine q_lpE ?_ | refine q_seqR ?_ | refine q_blkR ?_ | refine q_lpR ?_ | refine q_lpN ?_ | ((first | refine q_ret ?_ | refine q_end ?_); (first | refine q_r1 ?_ | refine q_rc ?_ | refine q_r0 ?_); simp only [go_sem, Nat.reduceLT, Nat.reduceEqDiff, Nat.reduceAdd, Nat.reduceMul, Nat.reduceLeDiff, Nat.le_refl, reduceIte, reduceCtorEq])
  refine c_cond _ rfl (fun hq => ?_) (fun hq => ?_)
  · simp only [decide_eq_true_eq] at hq
    obtain ⟨x, hx⟩ : ∃ x, begin[i]? = some x := ⟨_, List.getElem?_eq_getElem (by omega)⟩
    have hxx : begin.getD i 0 = x := by rw [List.getD_eq_getElem?_getD, hx]; rfl
    have hp : (1 + g.ins + (i : Int)).toNat = 1 + g.ins.toNat + i := by omega
    have hlt : 1 + g.ins.toNat + i < N := by omega
    have hget := iC_get (mk_get (n := N) (f := firstF g begin i) hlt)
    have hlen : (iC (mk N (firstF g begin i))).length = N := by rw [iC_len, mk_len]
    have hset : ∀ v, v = begV begin i → (iC (mk N (firstF g begin i))).set (1 + g.ins.toNat + i) [.i .i64 v] = iC (mk N (firstF g begin (i + 1))) := fun v hv => by
      rw [iC_set, mk_set, hv, firstF_succ]
    have he := eithN_take hx
    have hle := eithN_le (begin.take i)
    rw [List.length_take] at hle
    have hbx : badB x = false := Bool.not_eq_true _ ▸ (List.any_eq_false.1 hbad x (List.mem_of_getElem? hx))
    replace hbx := of_decide_eq_false hbx
    have fin : ∀ {F : Nat → A} {ts : List (Nat × A)} {v : Int}, v = begV begin i → x ≠ 2 → NbI g begin N ((o 900).gen + 1) n k ((o 1002).gen + 1) o (i + 1) (nf 50 F oc ts [(10000, ⟨k, .row 3 1 ((iC (mk N (firstF g begin i))).set (1 + g.ins.toNat + i) [.i .i64 v])⟩)]).o := fun hv h2 => by
      rw [if_neg h2, Int.add_zero] at he
      refine ⟨?_, hI.lt, ?_, hI.gb, fun j hj hS => ?_⟩
      · rw [he]
        exact hI.bd.keep rfl rfl
      · rw [← hset _ hv]
        rfl
      · rw [← hI.fr j hj hS]
        exact if_neg (fun e => hS (by simp [e]))
    repeat' first | refine c_seq ?_ | refine c_block ?_ | refine c_reg' rfl fun K hK => ?_ | refine c_draw' rfl (by kernel_rfl) fun K hK => ?_ | ((first | refine r_opN fun κ η => ?_ | refine r_opG rfl fun κ η => ?_ | refine d_opN (by kernel_rfl) fun κ η => ?_ | refine d_opG (by kernel_rfl) rfl fun κ η => ?_); simp only [go_sem, Nat.reduceLT, Nat.reduceEqDiff, Nat.reduceAdd, Nat.reduceMul, Nat.reduceLeDiff, Nat.le_refl, reduceIte, reduceCtorEq, hx, hgb]; (repeat refine ⟨by (first | omega | assumption | exact ⟨_, rfl⟩ | exact ⟨_, rfl, rfl⟩), ?_⟩); refine η _ ?_; clear η κ) | (refine r_nil (hK _ ?_); clear hK K) | refine q_seq ?_ | (refine d_nil (hK _ ?_); clear hK K) | refine q_blk ?_ | refine c_skip ?_ | refine c_exit ?_ | refine c_ret ?_ | refine q_seqE ?_ | refine q_blkHit ?_ | refine q_blkMiss rfl ?_ | refine q_lpE ?_ | refine q_seqR ?_ | refine q_blkR ?_ | refine q_lpR ?_ | refine q_lpN ?_ | ((first | refine q_ret ?_ | refine q_end ?_); (first | refine q_r1 ?_ | refine q_rc ?_ | refine q_r0 ?_); simp only [go_sem, Nat.reduceLT, Nat.reduceEqDiff, Nat.reduceAdd, Nat.reduceMul, Nat.reduceLeDiff, Nat.le_refl, reduceIte, reduceCtorEq, hx, hgb])
    refine c_cond _ rfl (fun h0 => ?_) (fun h0 => ?_)
    · simp only [decide_eq_true_eq] at h0
      repeat' first | refine c_seq ?_ | refine c_block ?_ | refine c_reg' rfl fun K hK => ?_ | refine c_draw' rfl (by kernel_rfl) fun K hK => ?_ | ((first | refine r_opN fun κ η => ?_ | refine r_opG rfl fun κ η => ?_ | refine d_opN (by kernel_rfl) fun κ η => ?_ | refine d_opG (by kernel_rfl) rfl fun κ η => ?_); simp only [go_sem, Nat.reduceLT, Nat.reduceEqDiff, Nat.reduceAdd, Nat.reduceMul, Nat.reduceLeDiff, Nat.le_refl, reduceIte, reduceCtorEq, hrw, hp, hget, hlen]; (repeat refine ⟨by (first | omega | assumption | exact ⟨_, rfl⟩ | exact ⟨_, rfl, rfl⟩), ?_⟩); refine η _ ?_; clear η κ) | (refine r_nil (hK _ ?_); clear hK K) | refine q_seq ?_ | (refine d_nil (hK _ ?_); clear hK K) | refine q_blk ?_ | refine c_skip ?_ | refine c_exit ?_ | refine c_ret ?_ | refine q_seqE ?_ | refine q_blkHit ?_ | refine q_blkMiss rfl ?_ | refine q_lpE ?_ | refine q_seqR ?_ | refine q_blkR ?_ | refine q_lpR ?_ | refine q_lpN ?_ | ((first | refine q_ret ?_ | refine q_end ?_); (first | refine q_r1 ?_ | refine q_rc ?_ | refine q_r0 ?_); simp only [go_sem, Nat.reduceLT, Nat.reduceEqDiff, Nat.reduceAdd, Nat.reduceMul, Nat.reduceLeDiff, Nat.le_refl, reduceIte, reduceCtorEq, hrw, hp, hget, hlen])
      exact ⟨begin.length - (i + 1), by omega, i + 1, rfl, by omega, _, _, nf_of rfl ⟨rfl, rfl, rfl, rfl, rfl, rfl, trivial⟩ trivial, fin (by rw [begV, hxx, if_pos h0]) (by omega)⟩
    simp only [decide_eq_false_iff_not] at h0
    repeat' first | refine c_seq ?_ | refine c_block ?_ | refine c_reg' rfl fun K hK => ?_ | refine c_draw' rfl (by kernel_rfl) fun K hK => ?_ | ((first | refine r_opN fun κ η => ?_ | refine r_opG rfl fun κ η => ?_ | refine d_opN (by kernel_rfl) fun κ η => ?_ | refine d_opG (by kernel_rfl) rfl fun κ η => ?_); simp only [go_sem, Nat.reduceLT, Nat.reduceEqDiff, Nat.reduceAdd, Nat.reduceMul, Nat.reduceLeDiff, Nat.le_refl, reduceIte, reduceCtorEq]; (repeat refine ⟨by (first | omega | assumption | exact ⟨_, rfl⟩ | exact ⟨_, rfl, rfl⟩), ?_⟩); refine η _ ?_; clear η κ) | (refine r_nil (hK _ ?_); clear hK K) | refine q_seq ?_ | (refine d_nil (hK _ ?_); clear hK K) | refine q_blk ?_ | refine c_skip ?_ | refine c_exit ?_ | refine c_ret ?_ | refine q_seqE ?_ | refine q_blkHit ?_ | refine q_blkMiss rfl ?_ | refine q_lpE ?_ | refine q_seqR ?_ | refine q_blkR ?_ | refine q_lpR ?_ | refine q_lpN ?_ | ((first | refine q_ret ?_ | refine q_end ?_); (first | refine q_r1 ?_ | refine q_rc ?_ | refine q_r0 ?_); simp only [go_sem, Nat.reduceLT, Nat.reduceEqDiff, Nat.reduceAdd, Nat.reduceMul, Nat.reduceLeDiff, Nat.le_refl, reduceIte, reduceCtorEq])
    refine c_cond _ rfl (fun h1 => ?_) (fun h1 => ?_)
    · simp only [decide_eq_true_eq] at h1
      repeat' first | refine c_seq ?_ | refine c_block ?_ | refine c_reg' rfl fun K hK => ?_ | refine c_draw' rfl (by kernel_rfl) fun K hK => ?_ | ((first | refine r_opN fun κ η => ?_ | refine r_opG rfl fun κ η => ?_ | refine d_opN (by kernel_rfl) fun κ η => ?_ | refine d_opG (by kernel_rfl) rfl fun κ η => ?_); simp only [go_sem, Nat.reduceLT, Nat.reduceEqDiff, Nat.reduceAdd, Nat.reduceMul, Nat.reduceLeDiff, Nat.le_refl, reduceIte, reduceCtorEq, hrw, hp, hget, hlen]; (repeat refine ⟨by (first | omega | assumption | exact ⟨_, rfl⟩ | exact ⟨_, rfl, rfl⟩), ?_⟩); refine η _ ?_; clear η κ) | (refine r_nil (hK _ ?_); clear hK K) | refine q_seq ?_ | (refine d_nil (hK _ ?_); clear hK K) | refine q_blk ?_ | refine c_skip ?_ | refine c_exit ?_ | refine c_ret ?_ | refine q_seqE ?_ | refine q_blkHit ?_ | refine q_blkMiss rfl ?_ | refine q_lpE ?_ | refine q_seqR ?_ | refine q_blkR ?_ | refine q_lpR ?_ | refine q_lpN ?_ | ((first | refine q_ret ?_ | refine q_end ?_); (first | refine q_r1 ?_ | refine q_rc ?_ | refine q_r0 ?_); simp only [go_sem, Nat.reduceLT, Nat.reduceEqDiff, Nat.reduceAdd, Nat.reduceMul, Nat.reduceLeDiff, Nat.le_refl, reduceIte, reduceCtorEq, hrw, hp, hget, hlen])
      exact ⟨begin.length - (i + 1), by omega, i + 1, rfl, by omega, _, _, nf_of rfl ⟨rfl, rfl, rfl, rfl, rfl, rfl, trivial⟩ trivial, fin (by rw [begV, hxx, if_neg h0, if_pos h1]) (by omega)⟩
    simp only [decide_eq_false_iff_not] at h1
    have h2 : x = 2 := by omega
    rw [if_pos h2] at he
    repeat' first | refine c_seq ?_ | refine c_block ?_ | refine c_reg' rfl fun K hK => ?_ | refine c_draw' rfl (by kernel_rfl) fun K hK => ?_ | ((first | refine r_opN fun κ η => ?_ | refine r_opG rfl fun κ η => ?_ | refine d_opN (by kernel_rfl) fun κ η => ?_ | refine d_opG (by kernel_rfl) rfl fun κ η => ?_); simp only [go_sem, Nat.reduceLT, Nat.reduceEqDiff, Nat.reduceAdd, Nat.reduceMul, Nat.reduceLeDiff, Nat.le_refl, reduceIte, reduceCtorEq]; (repeat refine ⟨by (first | omega | assumption | exact ⟨_, rfl⟩ | exact ⟨_, rfl, rfl⟩), ?_⟩); refine η _ ?_; clear η κ) | (refine r_nil (hK _ ?_); clear hK K) | refine q_seq ?_ | (refine d_nil (hK _ ?_); clear hK K) | refine q_blk ?_ | refine c_skip ?_ | refine c_exit ?_ | refine c_ret ?_ | refine q_seqE ?_ | refine q_blkHit ?_ | refine q_blkMiss rfl ?_ | refine q_lpE ?_ | refine q_seqR ?_ | refine q_blkR ?_ | refine q_lpR ?_ | refine q_lpN ?_ | ((first | refine q_ret ?_ | refine q_end ?_); (first | refine q_r1 ?_ | refine q_rc ?_ | refine q_r0 ?_); simp only [go_sem, Nat.reduceLT, Nat.reduceEqDiff, Nat.reduceAdd, Nat.reduceMul, Nat.reduceLeDiff, Nat.le_refl, reduceIte, reduceCtorEq])
    refine r_call fun κ η => ?_; simp only [go_sem, Nat.reduceLT, Nat.reduceEqDiff, Nat.reduceAdd, Nat.reduceMul, Nat.reduceLeDiff, Nat.le_refl, reduceIte, reduceCtorEq]; refine ⟨_, variable_cm Hy (by exact hI.bd) (by omega), ?_⟩; rintro _ o4 ⟨rfl, hB4, hF4⟩; simp only [go_sem, Nat.reduceLT, Nat.reduceEqDiff, Nat.reduceAdd, Nat.reduceMul, Nat.reduceLeDiff, Nat.le_refl, reduceIte, reduceCtorEq]; refine η _ ?_; clear η κ
    have h4 := (hF4 10000 (by decide) (by decide)).trans hrw
    repeat' first | refine c_seq ?_ | refine c_block ?_ | refine c_reg' rfl fun K hK => ?_ | refine c_draw' rfl (by kernel_rfl) fun K hK => ?_ | ((first | refine r_opN fun κ η => ?_ | refine r_opG rfl fun κ η => ?_ | refine d_opN (by kernel_rfl) fun κ η => ?_ | refine d_opG (by kernel_rfl) rfl fun κ η => ?_); simp only [go_sem, Nat.reduceLT, Nat.reduceEqDiff, Nat.reduceAdd, Nat.reduceMul, Nat.reduceLeDiff, Nat.le_refl, reduceIte, reduceCtorEq, h4, hp, hget, hlen]; (repeat refine ⟨by (first | omega | assumption | exact ⟨_, rfl⟩ | exact ⟨_, rfl, rfl⟩), ?_⟩); refine η _ ?_; clear η κ) | (refine r_nil (hK _ ?_); clear hK K) | refine q_seq ?_ | (refine d_nil (hK _ ?_); clear hK K) | refine q_blk ?_ | refine c_skip ?_ | refine c_exit ?_ | refine c_ret ?_ | refine q_seqE ?_ | refine q_blkHit ?_ | refine q_blkMiss rfl ?_ | refine q_lpE ?_ | refine q_seqR ?_ | refine q_blkR ?_ | refine q_lpR ?_ | refine q_lpN ?_ | ((first | refine q_ret ?_ | refine q_end ?_); (first | refine q_r1 ?_ | refine q_rc ?_ | refine q_r0 ?_); simp only [go_sem, Nat.reduceLT, Nat.reduceEqDiff, Nat.reduceAdd, Nat.reduceMul, Nat.reduceLeDiff, Nat.le_refl, reduceIte, reduceCtorEq, h4, hp, hget, hlen])
    refine ⟨begin.length - (i + 1), by omega, i + 1, rfl, by omega, _, _, nf_of rfl ⟨rfl, rfl, rfl, rfl, rfl, rfl, trivial⟩ trivial, ?_, ?_, ?_, ?_, fun j hj hS => ?_⟩
    · rw [he, ← Int.add_assoc]
      exact hB4.keep rfl rfl
    · exact (hF4 902 (by decide) (by decide)).trans hI.lt
    · rw [← hset _ (show 1 + (eithN (begin.take i) : Int) + 1 = begV begin i by rw [begV, hxx, if_neg h0, if_neg h1, he, Int.add_assoc])]
      rfl
    · exact (hF4 1002 (by decide) (by decide)).trans hI.gb
    · rw [← hI.fr j hj hS]
      refine (if_neg (fun e => hS (by simp [e]))).trans (hF4 j (by omega) (fun e => hS ?_))
      simp only [List.mem_cons, List.not_mem_nil, or_false] at e ⊢
      exact .inl e
  · simp only [decide_eq_false_iff_not] at hq
    obtain rfl : i = begin.length := by omega
    repeat' first | refine c_seq ?_ | refine c_block ?_ | refine c_reg' rfl fun K hK => ?_ | refine c_draw' rfl (by kernel_rfl) fun K hK => ?_ | ((first | refine r_opN fun κ η => ?_ | refine r_opG rfl fun κ η => ?_ | refine d_opN (by kernel_rfl) fun κ η => ?_ | refine d_opG (by kernel_rfl) rfl fun κ η => ?_); simp only [go_sem, Nat.reduceLT, Nat.reduceEqDiff, Nat.reduceAdd, Nat.reduceMul, Nat.reduceLeDiff, Nat.le_refl, reduceIte, reduceCtorEq]; (repeat refine ⟨by (first | omega | assumption | exact ⟨_, rfl⟩ | exact ⟨_, rfl, rfl⟩), ?_⟩); refine η _ ?_; clear η κ) | (refine r_nil (hK _ ?_); clear hK K) | refine q_seq ?_ | (refine d_nil (hK _ ?_); clear hK K) | refine q_blk ?_ | refine c_skip ?_ | refine c_exit ?_ | refine c_ret ?_ | refine q_seqE ?_ | refine q_blkHit ?_ | refine q_blkMiss rfl ?_ | refine q_lpE ?_ | refine q_seqR ?_ | refine q_blkR ?_ | refine q_lpR ?_ | refine q_lpN ?_ | ((first | refine q_ret ?_ | refine q_end ?_); (first | refine q_r1 ?_ | refine q_rc ?_ | refine q_r0 ?_); simp only [go_sem, Nat.reduceLT, Nat.reduceEqDiff, Nat.reduceAdd, Nat.reduceMul, Nat.reduceLeDiff, Nat.le_refl, reduceIte, reduceCtorEq])
    refine ⟨_, n, k, rfl, ?_, hI.lt, hI.rw_, hI.fr⟩
    have := hI.bd
    rw [List.take_length] at this
    exact this
end Go.Proofs.Ytpbfkpdfodmcaaa
