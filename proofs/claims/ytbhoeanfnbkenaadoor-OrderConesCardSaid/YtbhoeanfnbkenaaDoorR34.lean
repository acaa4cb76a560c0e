import Derived.Test.YtbhoeanfnbkenaaDoorR32
import Derived.Test.YtbhoeanfnbkenaaDoorR2
namespace Go.Proofs.YtbhoeanfnbkenaaDoor
open Go.RowKit Go.WideMaps
set_option maxRecDepth 100000
set_option linter.unusedSimpArgs false
variable (Hy : World → Prop)
attribute [local irreducible] runM runD cwp seqQ blkQ lpQ retQ asQ bdQ bdY retP endR preD retD
set_option maxHeartbeats 2000000 in
theorem equalS_ct (a b : List ByteArray) (ha : a.length ≤ 140737488355328) (hb : b.length ≤ 140737488355328) : Ct Tryd.prog Hy 63 [.sl (sR a), .sl (sR b)] [.b (decide (a = b))] := by
  obtain ⟨R, hR⟩ : ∃ R, R = decide (a = b) := ⟨_, rfl⟩
  rw [← hR]
  by_cases hl : a.length = b.length
  · have hl' : ((a.length : Int) = b.length) = True := eq_true (by omega)
    refine ct_of (cls := _root_.id) tt_ok follows_ Tryd.func63 rfl (by decide) (Nat.le_of_ble_eq_true rfl) ?_
    rw [show Tryd.f63.ntmps = 26 from rfl, s0_nf]
    simp only [List.zipIdx_cons, List.zipIdx_nil, List.map_cons, List.map_nil, Nat.reduceAdd]
    repeat' first | refine c_seq ?_ | refine c_block ?_ | refine c_reg' rfl fun K E hK hE => ?_ | (refine r_opN fun κ η => ?_; simp only [go_sem, simprocAttr, Nat.le_refl, hl']; refine η _ ?_; clear η κ) | (refine r_nil (hK _ ?_); clear hE hK E K) | refine q_seq ?_ | refine c_cond false rfl (fun h => (by cases h)) fun _ => ?_ | refine c_skip ?_
    refine c_loop (fun m s' => ∃ k : Nat, m = a.length - k ∧ k ≤ a.length ∧ (∀ (j : Nat), j < k → a[j]? = b[j]?) ∧ ∃ F G0, s' = nf 26 F G0 [(0, .t (.sl (sR a))), (1, .t (.sl (sR b))), (12, .t (.i .i64 a.length)), (13, .t (.i .i64 k))] []) a.length ?_ ?_
    · exact ⟨0, by omega, by omega, fun j hj => absurd hj (Nat.not_lt_zero j), _, _, nf_of rfl ⟨rfl, rfl, rfl, rfl, trivial⟩ trivial⟩
    rintro m s' ⟨k, rfl, hk, hno, F, G0, rfl⟩
    by_cases hd : k < a.length
    · have hd' : ((k : Int) < a.length) = True := eq_true (by omega)
      obtain ⟨x, hx⟩ : ∃ x, a[k]? = some x := ⟨_, List.getElem?_eq_getElem (by omega)⟩
      obtain ⟨y, hy⟩ : ∃ y, b[k]? = some y := ⟨_, List.getElem?_eq_getElem (by omega)⟩
      have hx' := sR_get hx
      have hy' := sR_get hy
      by_cases he : x = y
      · have he' := eq_true he
        repeat' first | refine c_seq ?_ | refine c_block ?_ | refine c_reg' rfl fun K E hK hE => ?_ | refine c_draw' rfl (by kernel_rfl) fun K E hK hE => ?_ | ((first | refine r_opN fun κ η => ?_ | refine d_opN (by kernel_rfl) fun κ η => ?_); simp only [go_sem, simprocAttr, Nat.le_refl, hd', hx', hy', he', decide_true]; (repeat refine ⟨by omega, ?_⟩); refine η _ ?_; clear η κ) | (refine r_nil (hK _ ?_); clear hE hK E K) | refine q_seq ?_ | refine c_cond true rfl (fun _ => ?_) (fun h => (by cases h)) | refine c_cond false rfl (fun h => (by cases h)) fun _ => ?_ | (refine d_nil (hK _ ?_); clear hE hK E K) | refine q_blk ?_ | refine c_skip ?_ | refine q_lpN ?_
        refine ⟨a.length - (k + 1), by omega, k + 1, rfl, by omega, fun j hj => ?_, _, _, nf_of rfl ⟨rfl, rfl, rfl, rfl, trivial⟩ trivial⟩
        rcases Nat.lt_or_eq_of_le (Nat.lt_succ_iff.1 hj) with h | rfl
        · exact hno j h
        · rw [hx, hy, he]
      · have he' := eq_false he
        have hR0 : R = false := by
          rw [hR, decide_eq_false]
          rintro rfl
          rw [hx] at hy
          exact he (Option.some.inj hy)
        subst hR0
        repeat' first | refine c_seq ?_ | refine c_block ?_ | refine c_reg' rfl fun K E hK hE => ?_ | refine c_draw' rfl (by kernel_rfl) fun K E hK hE => ?_ | ((first | refine r_opN fun κ η => ?_ | refine d_opN (by kernel_rfl) fun κ η => ?_); simp only [go_sem, simprocAttr, Nat.le_refl, hd', hx', hy', he', decide_false]; (repeat refine ⟨by omega, ?_⟩); refine η _ ?_; clear η κ) | (refine r_nil (hK _ ?_); clear hE hK E K) | refine q_seq ?_ | refine c_cond true rfl (fun _ => ?_) (fun h => (by cases h)) | (refine d_nil (hK _ ?_); clear hE hK E K) | refine c_skip ?_ | refine c_ret ?_ | refine q_seqR ?_ | refine q_blkR ?_ | refine q_lpR ?_ | (refine q_ret ?_; refine q_r1 ?_; simp only [go_sem, simprocAttr, Nat.le_refl, hd', hx', hy', he', decide_false])
    · have hd' : ((k : Int) < a.length) = False := eq_false (by omega)
      have hR1 : R = true := by
        rw [hR, decide_eq_true_eq]
        refine List.ext_getElem? fun j => ?_
        by_cases hj : j < k
        · exact hno j hj
        · rw [List.getElem?_eq_none (by omega), List.getElem?_eq_none (by omega)]
      subst hR1
      repeat' first | refine c_seq ?_ | refine c_reg' rfl fun K E hK hE => ?_ | (refine r_opN fun κ η => ?_; simp only [go_sem, simprocAttr, Nat.le_refl, hd']; refine η _ ?_; clear η κ) | (refine r_nil (hK _ ?_); clear hE hK E K) | refine q_seq ?_ | refine c_cond false rfl (fun h => (by cases h)) fun _ => ?_ | refine c_exit ?_ | refine c_ret ?_ | refine q_seqE ?_ | refine q_blkHit ?_ | refine q_lpE ?_ | (refine q_ret ?_; refine q_r1 ?_; simp only [go_sem, simprocAttr, Nat.le_refl, hd'])
  · have hl' : ((a.length : Int) = b.length) = False := eq_false (by omega)
    have hR0 : R = false := by
      rw [hR, decide_eq_false]
      rintro rfl
      exact hl rfl
    subst hR0
    refine ct_of (cls := _root_.id) tt_ok follows_ Tryd.func63 rfl (by decide) (Nat.le_of_ble_eq_true rfl) ?_
    rw [show Tryd.f63.ntmps = 26 from rfl, s0_nf]
    simp only [List.zipIdx_cons, List.zipIdx_nil, List.map_cons, List.map_nil, Nat.reduceAdd]
    repeat' first | refine c_seq ?_ | refine c_reg' rfl fun K E hK hE => ?_ | (refine r_opN fun κ η => ?_; simp only [go_sem, simprocAttr, Nat.le_refl, hl']; refine η _ ?_; clear η κ) | (refine r_nil (hK _ ?_); clear hE hK E K) | refine q_seq ?_ | refine c_cond true rfl (fun _ => ?_) (fun h => (by cases h)) | refine c_ret ?_ | refine q_seqR ?_ | (refine q_ret ?_; refine q_r1 ?_; simp only [go_sem, simprocAttr, Nat.le_refl, hl'])
theorem la_dec (x y : La) : (decide (x.name = y.name) && (decide (x.next = y.next) && decide (x.init = y.init))) = decide (x = y) := by
  obtain ⟨a, b, c⟩ := x
  obtain ⟨d, e, f⟩ := y
  rw [Bool.eq_iff_iff]
  simp
set_option maxHeartbeats 2000000 in
theorem equalL_ct (a b : List La) (ha : a.length ≤ 140737488355328) (hb : b.length ≤ 140737488355328) : Ct Tryd.prog Hy 64 [.sl (lsR a), .sl (lsR b)] [.b (decide (a = b))] := by
  obtain ⟨R, hR⟩ : ∃ R, R = decide (a = b) := ⟨_, rfl⟩
  rw [← hR]
  by_cases hl : a.length = b.length
  · have hl' : ((a.length : Int) = b.length) = True := eq_true (by omega)
    refine ct_of (cls := _root_.id) tt_ok follows_ Tryd.func64 rfl (by decide) (Nat.le_of_ble_eq_true rfl) ?_
    rw [show Tryd.f64.ntmps = 26 from rfl, s0_nf]
    simp only [List.zipIdx_cons, List.zipIdx_nil, List.map_cons, List.map_nil, Nat.reduceAdd]
    repeat' first | refine c_seq ?_ | refine c_block ?_ | refine c_reg' rfl fun K E hK hE => ?_ | (refine r_opN fun κ η => ?_; simp only [go_sem, simprocAttr, Nat.le_refl, hl']; refine η _ ?_; clear η κ) | (refine r_nil (hK _ ?_); clear hE hK E K) | refine q_seq ?_ | refine c_cond false rfl (fun h => (by cases h)) fun _ => ?_ | refine c_skip ?_
    refine c_loop (fun m s' => ∃ k : Nat, m = a.length - k ∧ k ≤ a.length ∧ (∀ (j : Nat), j < k → a[j]? = b[j]?) ∧ ∃ F G0, s' = nf 26 F G0 [(0, .t (.sl (lsR a))), (1, .t (.sl (lsR b))), (12, .t (.i .i64 a.length)), (13, .t (.i .i64 k))] []) a.length ?_ ?_
    · exact ⟨0, by omega, by omega, fun j hj => absurd hj (Nat.not_lt_zero j), _, _, nf_of rfl ⟨rfl, rfl, rfl, rfl, trivial⟩ trivial⟩
    rintro m s' ⟨k, rfl, hk, hno, F, G0, rfl⟩
    by_cases hd : k < a.length
    · have hd' : ((k : Int) < a.length) = True := eq_true (by omega)
      obtain ⟨x, hx⟩ : ∃ x, a[k]? = some x := ⟨_, List.getElem?_eq_getElem (by omega)⟩
      obtain ⟨y, hy⟩ : ∃ y, b[k]? = some y := ⟨_, List.getElem?_eq_getElem (by omega)⟩
      have hx' := lsR_get hx
      have hy' := lsR_get hy
      by_cases he : x = y
      · have he' := eq_true he
        repeat' first | refine c_seq ?_ | refine c_block ?_ | refine c_reg' rfl fun K E hK hE => ?_ | refine c_draw' rfl (by kernel_rfl) fun K E hK hE => ?_ | ((first | refine r_opN fun κ η => ?_ | refine d_opN (by kernel_rfl) fun κ η => ?_); simp only [go_sem, simprocAttr, Nat.le_refl, hd', hx', hy', la_dec, he', decide_true]; (repeat refine ⟨by omega, ?_⟩); refine η _ ?_; clear η κ) | (refine r_nil (hK _ ?_); clear hE hK E K) | refine q_seq ?_ | refine c_cond true rfl (fun _ => ?_) (fun h => (by cases h)) | refine c_cond false rfl (fun h => (by cases h)) fun _ => ?_ | (refine d_nil (hK _ ?_); clear hE hK E K) | refine q_blk ?_ | refine c_skip ?_ | refine q_lpN ?_
        refine ⟨a.length - (k + 1), by omega, k + 1, rfl, by omega, fun j hj => ?_, _, _, nf_of rfl ⟨rfl, rfl, rfl, rfl, trivial⟩ trivial⟩
        rcases Nat.lt_or_eq_of_le (Nat.lt_succ_iff.1 hj) with h | rfl
        · exact hno j h
        · rw [hx, hy, he]
      · have he' := eq_false he
        have hR0 : R = false := by
          rw [hR, decide_eq_false]
          rintro rfl
          rw [hx] at hy
          exact he (Option.some.inj hy)
        subst hR0
        repeat' first | refine c_seq ?_ | refine c_block ?_ | refine c_reg' rfl fun K E hK hE => ?_ | refine c_draw' rfl (by kernel_rfl) fun K E hK hE => ?_ | ((first | refine r_opN fun κ η => ?_ | refine d_opN (by kernel_rfl) fun κ η => ?_); simp only [go_sem, simprocAttr, Nat.le_refl, hd', hx', hy', la_dec, he', decide_false]; (repeat refine ⟨by omega, ?_⟩); refine η _ ?_; clear η κ) | (refine r_nil (hK _ ?_); clear hE hK E K) | refine q_seq ?_ | refine c_cond true rfl (fun _ => ?_) (fun h => (by cases h)) | (refine d_nil (hK _ ?_); clear hE hK E K) | refine c_skip ?_ | refine c_ret ?_ | refine q_seqR ?_ | refine q_blkR ?_ | refine q_lpR ?_ | (refine q_ret ?_; refine q_r1 ?_; simp only [go_sem, simprocAttr, Nat.le_refl, hd', hx', hy', la_dec, he', decide_false])
    · have hd' : ((k : Int) < a.length) = False := eq_false (by omega)
      have hR1 : R = true := by
        rw [hR, decide_eq_true_eq]
        refine List.ext_getElem? fun j => ?_
        by_cases hj : j < k
        · exact hno j hj
        · rw [List.getElem?_eq_none (by omega), List.getElem?_eq_none (by omega)]
      subst hR1
      repeat' first | refine c_seq ?_ | refine c_reg' rfl fun K E hK hE => ?_ | (refine r_opN fun κ η => ?_; simp only [go_sem, simprocAttr, Nat.le_refl, hd']; refine η _ ?_; clear η κ) | (refine r_nil (hK _ ?_); clear hE hK E K) | refine q_seq ?_ | refine c_cond false rfl (fun h => (by cases h)) fun _ => ?_ | refine c_exit ?_ | refine c_ret ?_ | refine q_seqE ?_ | refine q_blkHit ?_ | refine q_lpE ?_ | (refine q_ret ?_; refine q_r1 ?_; simp only [go_sem, simprocAttr, Nat.le_refl, hd'])
  · have hl' : ((a.length : Int) = b.length) = False := eq_false (by omega)
    have hR0 : R = false := by
      rw [hR, decide_eq_false]
      rintro rfl
      exact hl rfl
    subst hR0
    refine ct_of (cls := _root_.id) tt_ok follows_ Tryd.func64 rfl (by decide) (Nat.le_of_ble_eq_true rfl) ?_
    rw [show Tryd.f64.ntmps = 26 from rfl, s0_nf]
    simp only [List.zipIdx_cons, List.zipIdx_nil, List.map_cons, List.map_nil, Nat.reduceAdd]
    repeat' first | refine c_seq ?_ | refine c_reg' rfl fun K E hK hE => ?_ | (refine r_opN fun κ η => ?_; simp only [go_sem, simprocAttr, Nat.le_refl, hl']; refine η _ ?_; clear η κ) | (refine r_nil (hK _ ?_); clear hE hK E K) | refine q_seq ?_ | refine c_cond true rfl (fun _ => ?_) (fun h => (by cases h)) | refine c_ret ?_ | refine q_seqR ?_ | (refine q_ret ?_; refine q_r1 ?_; simp only [go_sem, simprocAttr, Nat.le_refl, hl'])
theorem sameP (a b : Gt) : decide (a = b) = (decide (a.name = b.name) && (decide (a.op = b.op) && ((a.off == b.off) && (decide (a.ins = b.ins) && decide (a.rows = b.rows))))) := by
  obtain ⟨na, oa, ia, ra, fa⟩ := a
  obtain ⟨nb, ob, ib, rb, fb⟩ := b
  rw [Bool.eq_iff_iff]
  simp only [Gt.mk.injEq, decide_eq_true_eq, Bool.and_eq_true, beq_iff_eq]
  exact ⟨fun ⟨a, b, c, d, e⟩ => ⟨a, b, e, c, d⟩, fun ⟨a, b, e, c, d⟩ => ⟨a, b, c, d, e⟩⟩
set_option maxHeartbeats 4000000 in
theorem sameGate_ct (a b : Gt) (h1 : a.ins.length ≤ 140737488355328) (h2 : b.ins.length ≤ 140737488355328) (h3 : a.rows.length ≤ 140737488355328) (h4 : b.rows.length ≤ 140737488355328) : Ct Tryd.prog Hy 66 [.ag (gT a), .ag (gT b)] [.b (decide (a = b))] := by
  have ht1 := equalS_ct Hy a.ins b.ins h1 h2
  have ht2 := equalS_ct Hy (a.rows.map mk) (b.rows.map mk) (by rw [List.length_map]; exact h3) (by rw [List.length_map]; exact h4)
  rw [← rR_sR, ← rR_sR, show decide (a.rows.map mk = b.rows.map mk) = decide (a.rows = b.rows) from decide_eq_decide.2 mks_one] at ht2
  rw [sameP]
  obtain ⟨na, oa, ia, ra, fa⟩ := a
  obtain ⟨nb, ob, ib, rb, fb⟩ := b
  simp only at ht1 ht2 ⊢
  generalize decide (ia = ib) = b1 at *
  generalize decide (ra = rb) = b2 at *
  by_cases c1 : na = nb
  · by_cases c2 : oa = ob
    · cases c3 : (fa == fb)
      · refine ct_of (cls := _root_.id) tt_ok follows_ Tryd.func66 rfl (by decide) (Nat.le_of_ble_eq_true rfl) ?_
        rw [show Tryd.f66.ntmps = 38 from rfl, s0_nf]
        simp only [List.zipIdx_cons, List.zipIdx_nil, List.map_cons, List.map_nil, Nat.reduceAdd, gT]
        repeat' first | refine c_seq ?_ | refine c_reg' rfl fun K E hK hE => ?_ | ((first | refine r_opN fun κ η => ?_ | refine r_opG rfl fun κ η => ?_); simp only [go_sem, simprocAttr, Nat.le_refl, eq_true c1, eq_true c2, c3, decide_true]; (repeat refine ⟨by omega, ?_⟩); refine η _ ?_; clear η κ) | (refine r_nil (hK _ ?_); clear hE hK E K) | refine q_seq ?_ | refine c_ret ?_ | (refine q_ret ?_; refine q_r1 ?_; simp only [go_sem, simprocAttr, Nat.le_refl, eq_true c1, eq_true c2, c3, decide_true])
      · cases b1
        · refine ct_of (cls := _root_.id) tt_ok follows_ Tryd.func66 rfl (by decide) (Nat.le_of_ble_eq_true rfl) ?_
          rw [show Tryd.f66.ntmps = 38 from rfl, s0_nf]
          simp only [List.zipIdx_cons, List.zipIdx_nil, List.map_cons, List.map_nil, Nat.reduceAdd, gT]
          repeat' first | refine c_seq ?_ | refine c_reg' rfl fun K E hK hE => ?_ | ((first | refine r_opN fun κ η => ?_ | refine r_opG rfl fun κ η => ?_); simp only [go_sem, simprocAttr, Nat.le_refl, eq_true c1, eq_true c2, c3, decide_true]; (repeat refine ⟨by omega, ?_⟩); refine η _ ?_; clear η κ) | (refine r_nil (hK _ ?_); clear hE hK E K) | refine q_seq ?_
          refine r_opG rfl fun κ η => ?_; simp only [go_sem, simprocAttr, Nat.le_refl]; refine ⟨_, ht1, ?_⟩; simp only [go_sem, simprocAttr, Nat.le_refl]; refine η _ ?_; clear η κ
          repeat' first | ((first | refine r_opN fun κ η => ?_ | refine r_opG rfl fun κ η => ?_); simp only [go_sem, simprocAttr, Nat.le_refl]; refine η _ ?_; clear η κ) | (refine r_nil (hK _ ?_); clear hE hK E K) | refine q_seq ?_ | refine c_ret ?_ | (refine q_ret ?_; refine q_r1 ?_; simp only [go_sem, simprocAttr, Nat.le_refl])
        · refine ct_of (cls := _root_.id) tt_ok follows_ Tryd.func66 rfl (by decide) (Nat.le_of_ble_eq_true rfl) ?_
          rw [show Tryd.f66.ntmps = 38 from rfl, s0_nf]
          simp only [List.zipIdx_cons, List.zipIdx_nil, List.map_cons, List.map_nil, Nat.reduceAdd, gT]
          repeat' first | refine c_seq ?_ | refine c_reg' rfl fun K E hK hE => ?_ | ((first | refine r_opN fun κ η => ?_ | refine r_opG rfl fun κ η => ?_); simp only [go_sem, simprocAttr, Nat.le_refl, eq_true c1, eq_true c2, c3, decide_true]; (repeat refine ⟨by omega, ?_⟩); refine η _ ?_; clear η κ) | (refine r_nil (hK _ ?_); clear hE hK E K) | refine q_seq ?_
          refine r_opG rfl fun κ η => ?_; simp only [go_sem, simprocAttr, Nat.le_refl]; refine ⟨_, ht1, ?_⟩; simp only [go_sem, simprocAttr, Nat.le_refl]; refine η _ ?_; clear η κ
          repeat' ((first | refine r_opN fun κ η => ?_ | refine r_opG rfl fun κ η => ?_); simp only [go_sem, simprocAttr, Nat.le_refl]; (repeat refine ⟨by omega, ?_⟩); refine η _ ?_; clear η κ)
          refine r_opG rfl fun κ η => ?_; simp only [go_sem, simprocAttr, Nat.le_refl]; refine ⟨_, ht2, ?_⟩; simp only [go_sem, simprocAttr, Nat.le_refl]; refine η _ ?_; clear η κ
          repeat' first | (refine r_opN fun κ η => ?_; simp only [go_sem, simprocAttr, Nat.le_refl]; refine η _ ?_; clear η κ) | (refine r_nil (hK _ ?_); clear hE hK E K) | refine q_seq ?_ | refine c_ret ?_ | (refine q_ret ?_; refine q_r1 ?_; simp only [go_sem, simprocAttr, Nat.le_refl])
          simp [c1, c2]
    · refine ct_of (cls := _root_.id) tt_ok follows_ Tryd.func66 rfl (by decide) (Nat.le_of_ble_eq_true rfl) ?_
      rw [show Tryd.f66.ntmps = 38 from rfl, s0_nf]
      simp only [List.zipIdx_cons, List.zipIdx_nil, List.map_cons, List.map_nil, Nat.reduceAdd, gT]
      repeat' first | refine c_seq ?_ | refine c_reg' rfl fun K E hK hE => ?_ | ((first | refine r_opN fun κ η => ?_ | refine r_opG rfl fun κ η => ?_); simp only [go_sem, simprocAttr, Nat.le_refl, eq_true c1, eq_false c2, decide_true, decide_false]; (repeat refine ⟨by omega, ?_⟩); refine η _ ?_; clear η κ) | (refine r_nil (hK _ ?_); clear hE hK E K) | refine q_seq ?_ | refine c_ret ?_ | (refine q_ret ?_; refine q_r1 ?_; simp only [go_sem, simprocAttr, Nat.le_refl, eq_true c1, eq_false c2, decide_true, decide_false])
  · refine ct_of (cls := _root_.id) tt_ok follows_ Tryd.func66 rfl (by decide) (Nat.le_of_ble_eq_true rfl) ?_
    rw [show Tryd.f66.ntmps = 38 from rfl, s0_nf]
    simp only [List.zipIdx_cons, List.zipIdx_nil, List.map_cons, List.map_nil, Nat.reduceAdd, gT]
    repeat' first | refine c_seq ?_ | refine c_reg' rfl fun K E hK hE => ?_ | ((first | refine r_opN fun κ η => ?_ | refine r_opG rfl fun κ η => ?_); simp only [go_sem, simprocAttr, Nat.le_refl, eq_false c1, decide_false]; (repeat refine ⟨by omega, ?_⟩); refine η _ ?_; clear η κ) | (refine r_nil (hK _ ?_); clear hE hK E K) | refine q_seq ?_ | refine c_ret ?_ | (refine q_ret ?_; refine q_r1 ?_; simp only [go_sem, simprocAttr, Nat.le_refl, eq_false c1, decide_false])
def EqF (f : FuncId) (a b : List Gt) : Prop := ∀ x ∈ a, ∀ y ∈ b, Ct Tryd.prog Hy f [.ag (gT x), .ag (gT y)] [.b (decide (x = y))]
set_option maxHeartbeats 4000000 in
theorem equalG_cm (a b : List Gt) {f : FuncId} (hf : EqF Hy f a b) (ha : a.length ≤ 140737488355328) (hb : b.length ≤ 140737488355328) (o : Nat → O) : Cm Tryd.prog Hy 65 [.t (.sl (gsR a)), .t (.sl (gsR b)), .fn f [] []] o fun rs o' => rs = [.t (.b (decide (a = b)))] ∧ Lo o o' := by
  obtain ⟨R, hR⟩ : ∃ R, R = decide (a = b) := ⟨_, rfl⟩
  rw [← hR]
  by_cases hl : a.length = b.length
  · have hl' : ((a.length : Int) = b.length) = True := eq_true (by omega)
    refine cm_of (cls := fun d => 7600 + d) tt_ok follows_ Tryd.func65 rfl (by decide) (Nat.le_of_ble_eq_true rfl) ?_
    rw [show Tryd.f65.ntmps = 32 from rfl, s0_nf]
    simp only [List.zipIdx_cons, List.zipIdx_nil, List.map_cons, List.map_nil, Nat.reduceAdd]
    repeat' first | refine c_seq ?_ | refine c_block ?_ | refine c_reg' rfl fun K E hK hE => ?_ | (refine r_opN fun κ η => ?_; simp only [go_sem, simprocAttr, Nat.le_refl, hl']; refine η _ ?_; clear η κ) | (refine r_nil (hK _ ?_); clear hE hK E K) | refine q_seq ?_ | refine c_cond false rfl (fun h => (by cases h)) fun _ => ?_ | refine c_skip ?_
    refine c_loop (fun m s' => ∃ k : Nat, m = a.length - k ∧ k ≤ a.length ∧ (∀ (j : Nat), j < k → a[j]? = b[j]?) ∧ ∃ F G0, s' = nf 32 F G0 [(0, .t (.sl (gsR a))), (1, .t (.sl (gsR b))), (2, .fn f [] []), (15, .t (.sl (gsR a))), (16, .t (.i .i64 a.length)), (17, .t (.i .i64 k))] [] ∧ Lo o G0) a.length ?_ ?_
    · exact ⟨0, by omega, by omega, fun j hj => absurd hj (Nat.not_lt_zero j), _, _, nf_of rfl ⟨rfl, rfl, rfl, rfl, rfl, rfl, trivial⟩ trivial, Lo.refl o⟩
    rintro m s' ⟨k, rfl, hk, hno, F, G0, rfl, hlo⟩
    by_cases hd : k < a.length
    · have hd' : ((k : Int) < a.length) = True := eq_true (by omega)
      obtain ⟨x, hx⟩ : ∃ x, a[k]? = some x := ⟨_, List.getElem?_eq_getElem (by omega)⟩
      obtain ⟨y, hy⟩ : ∃ y, b[k]? = some y := ⟨_, List.getElem?_eq_getElem (by omega)⟩
      have hx' := gsR_get hx
      have hy' := gsR_get hy
      have hc := hf x (List.mem_of_getElem? hx) y (List.mem_of_getElem? hy)
      simp only [gT] at hc
      by_cases he : x = y
      · rw [decide_eq_true he] at hc
        repeat' first | refine c_seq ?_ | refine c_block ?_ | refine c_reg' rfl fun K E hK hE => ?_ | (refine r_opN fun κ η => ?_; simp only [go_sem, simprocAttr, Nat.le_refl, hd', hx', hy']; (repeat refine ⟨by omega, ?_⟩); refine η _ ?_; clear η κ) | (refine r_nil (hK _ ?_); clear hE hK E K) | refine q_seq ?_ | refine c_cond true rfl (fun _ => ?_) (fun h => (by cases h)) | refine c_skip ?_
        refine r_opN fun κ η => ?_; simp only [go_sem, simprocAttr, Nat.le_refl]; refine ⟨_, hc, ?_⟩; simp only [go_sem, simprocAttr, Nat.le_refl]; refine η _ ?_; clear η κ
        repeat' first | refine c_reg' rfl fun K E hK hE => ?_ | (refine r_opN fun κ η => ?_; simp only [go_sem, simprocAttr, Nat.le_refl]; (repeat refine ⟨by omega, ?_⟩); refine η _ ?_; clear η κ) | (refine r_nil (hK _ ?_); clear hE hK E K) | refine q_seq ?_ | refine c_cond false rfl (fun h => (by cases h)) fun _ => ?_ | refine q_blk ?_ | refine c_skip ?_ | refine q_lpN ?_
        refine ⟨a.length - (k + 1), by omega, k + 1, rfl, by omega, fun j hj => ?_, _, _, nf_of rfl ⟨rfl, rfl, rfl, rfl, rfl, rfl, trivial⟩ trivial, hlo.trans (lo_nf rfl)⟩
        rcases Nat.lt_or_eq_of_le (Nat.lt_succ_iff.1 hj) with h | rfl
        · exact hno j h
        · rw [hx, hy, he]
      · rw [decide_eq_false he] at hc
        have hR0 : R = false := by
          rw [hR, decide_eq_false]
          rintro rfl
          rw [hx] at hy
          exact he (Option.some.inj hy)
        subst hR0
        repeat' first | refine c_seq ?_ | refine c_block ?_ | refine c_reg' rfl fun K E hK hE => ?_ | (refine r_opN fun κ η => ?_; simp only [go_sem, simprocAttr, Nat.le_refl, hd', hx', hy']; (repeat refine ⟨by omega, ?_⟩); refine η _ ?_; clear η κ) | (refine r_nil (hK _ ?_); clear hE hK E K) | refine q_seq ?_ | refine c_cond true rfl (fun _ => ?_) (fun h => (by cases h)) | refine c_skip ?_
        refine r_opN fun κ η => ?_; simp only [go_sem, simprocAttr, Nat.le_refl]; refine ⟨_, hc, ?_⟩; simp only [go_sem, simprocAttr, Nat.le_refl]; refine η _ ?_; clear η κ
        repeat' first | refine c_seq ?_ | refine c_reg' rfl fun K E hK hE => ?_ | (refine r_opN fun κ η => ?_; simp only [go_sem, simprocAttr, Nat.le_refl]; refine η _ ?_; clear η κ) | (refine r_nil (hK _ ?_); clear hE hK E K) | refine q_seq ?_ | refine c_cond true rfl (fun _ => ?_) (fun h => (by cases h)) | refine c_ret ?_ | refine q_seqR ?_ | refine q_blkR ?_ | refine q_lpR ?_ | (refine q_ret ?_; refine q_r1 ?_; simp only [go_sem, simprocAttr, Nat.le_refl])
        exact hlo.trans (lo_nf rfl)
    · have hd' : ((k : Int) < a.length) = False := eq_false (by omega)
      have hR1 : R = true := by
        rw [hR, decide_eq_true_eq]
        refine List.ext_getElem? fun j => ?_
        by_cases hj : j < k
        · exact hno j hj
        · rw [List.getElem?_eq_none (by omega), List.getElem?_eq_none (by omega)]
      subst hR1
      repeat' first | refine c_seq ?_ | refine c_reg' rfl fun K E hK hE => ?_ | (refine r_opN fun κ η => ?_; simp only [go_sem, simprocAttr, Nat.le_refl, hd']; refine η _ ?_; clear η κ) | (refine r_nil (hK _ ?_); clear hE hK E K) | refine q_seq ?_ | refine c_cond false rfl (fun h => (by cases h)) fun _ => ?_ | refine c_exit ?_ | refine c_ret ?_ | refine q_seqE ?_ | refine q_blkHit ?_ | refine q_lpE ?_ | (refine q_ret ?_; refine q_r1 ?_; simp only [go_sem, simprocAttr, Nat.le_refl, hd'])
      exact hlo
  · have hl' : ((a.length : Int) = b.length) = False := eq_false (by omega)
    have hR0 : R = false := by
      rw [hR, decide_eq_false]
      rintro rfl
      exact hl rfl
    subst hR0
    refine cm_of (cls := fun d => 7600 + d) tt_ok follows_ Tryd.func65 rfl (by decide) (Nat.le_of_ble_eq_true rfl) ?_
    rw [show Tryd.f65.ntmps = 32 from rfl, s0_nf]
    simp only [List.zipIdx_cons, List.zipIdx_nil, List.map_cons, List.map_nil, Nat.reduceAdd]
    repeat' first | refine c_seq ?_ | refine c_reg' rfl fun K E hK hE => ?_ | (refine r_opN fun κ η => ?_; simp only [go_sem, simprocAttr, Nat.le_refl, hl']; refine η _ ?_; clear η κ) | (refine r_nil (hK _ ?_); clear hE hK E K) | refine q_seq ?_ | refine c_cond true rfl (fun _ => ?_) (fun h => (by cases h)) | refine c_ret ?_ | refine q_seqR ?_ | (refine q_ret ?_; refine q_r1 ?_; simp only [go_sem, simprocAttr, Nat.le_refl, hl'])
    exact Lo.refl o
/-- gates that are not too long to be held against one another -/
def GSz (l : List Gt) : Prop := ∀ g ∈ l, g.ins.length ≤ 140737488355328 ∧ g.rows.length ≤ 140737488355328
theorem sameC (a b : Ci) : decide (a = b) = (decide (a.ins = b.ins) && (decide (a.outs = b.outs) && (decide (a.las = b.las) && decide (a.gts = b.gts)))) := by
  obtain ⟨i1, o1, l1, g1⟩ := a
  obtain ⟨i2, o2, l2, g2⟩ := b
  rw [Bool.eq_iff_iff]
  simp only [Ci.mk.injEq, decide_eq_true_eq, Bool.and_eq_true]
set_option maxHeartbeats 4000000 in
theorem same_ct (a b : Ci) (ha : CRoom a) (hb : CRoom b) (hga : GSz a.gts) (hgb : GSz b.gts) : Ct Tryd.prog Hy 32 [.ag (cE a), .ag (cE b)] [.b (decide (a = b))] := by
  have h1 := equalS_ct Hy a.ins b.ins ha.ins hb.ins
  have h2 := equalS_ct Hy a.outs b.outs ha.outs hb.outs
  have h3 := equalL_ct Hy a.las b.las ha.las hb.las
  have h4 := equalG_cm Hy a.gts b.gts (f := 66) (fun x hx y hy => sameGate_ct Hy x y (hga x hx).1 (hgb y hy).1 (hga x hx).2 (hgb y hy).2) ha.gts hb.gts
  rw [sameC]
  obtain ⟨i1, o1, l1, g1⟩ := a
  obtain ⟨i2, o2, l2, g2⟩ := b
  simp only at h1 h2 h3 h4 ⊢
  generalize decide (i1 = i2) = b1 at *
  generalize decide (o1 = o2) = b2 at *
  generalize decide (l1 = l2) = b3 at *
  generalize decide (g1 = g2) = b4 at *
  refine ct_of (cls := _root_.id) tt_ok follows_ Tryd.func32 rfl (by decide) (Nat.le_of_ble_eq_true rfl) ?_
  rw [show Tryd.f32.ntmps = 31 from rfl, s0_nf]
  simp only [List.zipIdx_cons, List.zipIdx_nil, List.map_cons, List.map_nil, Nat.reduceAdd, cE]
  repeat' first | refine c_seq ?_ | refine c_reg' rfl fun K E hK hE => ?_ | (refine r_opN fun κ η => ?_; simp only [go_sem, simprocAttr, Nat.le_refl]; (repeat refine ⟨by omega, ?_⟩); refine η _ ?_; clear η κ) | (refine r_nil (hK _ ?_); clear hE hK E K) | refine q_seq ?_
  refine r_opN fun κ η => ?_; simp only [go_sem, simprocAttr, Nat.le_refl]; refine ⟨_, h1, ?_⟩; simp only [go_sem, simprocAttr, Nat.le_refl]; refine η _ ?_; clear η κ
  cases b1
  · repeat' first | ((first | refine r_opN fun κ η => ?_ | refine r_opG rfl fun κ η => ?_); simp only [go_sem, simprocAttr, Nat.le_refl]; refine η _ ?_; clear η κ) | (refine r_nil (hK _ ?_); clear hE hK E K) | refine q_seq ?_ | refine c_ret ?_ | (refine q_ret ?_; refine q_r1 ?_; simp only [go_sem, simprocAttr, Nat.le_refl])
  repeat' ((first | refine r_opN fun κ η => ?_ | refine r_opG rfl fun κ η => ?_); simp only [go_sem, simprocAttr, Nat.le_refl]; (repeat refine ⟨by omega, ?_⟩); refine η _ ?_; clear η κ)
  refine r_opG rfl fun κ η => ?_; simp only [go_sem, simprocAttr, Nat.le_refl]; refine ⟨_, h2, ?_⟩; simp only [go_sem, simprocAttr, Nat.le_refl]; refine η _ ?_; clear η κ
  cases b2
  · repeat' first | ((first | refine r_opN fun κ η => ?_ | refine r_opG rfl fun κ η => ?_); simp only [go_sem, simprocAttr, Nat.le_refl]; refine η _ ?_; clear η κ) | (refine r_nil (hK _ ?_); clear hE hK E K) | refine q_seq ?_ | refine c_ret ?_ | (refine q_ret ?_; refine q_r1 ?_; simp only [go_sem, simprocAttr, Nat.le_refl])
  repeat' ((first | refine r_opN fun κ η => ?_ | refine r_opG rfl fun κ η => ?_); simp only [go_sem, simprocAttr, Nat.le_refl]; (repeat refine ⟨by omega, ?_⟩); refine η _ ?_; clear η κ)
  refine r_opG rfl fun κ η => ?_; simp only [go_sem, simprocAttr, Nat.le_refl]; refine ⟨_, h3, ?_⟩; simp only [go_sem, simprocAttr, Nat.le_refl]; refine η _ ?_; clear η κ
  cases b3
  · repeat' first | ((first | refine r_opN fun κ η => ?_ | refine r_opG rfl fun κ η => ?_); simp only [go_sem, simprocAttr, Nat.le_refl]; refine η _ ?_; clear η κ) | (refine r_nil (hK _ ?_); clear hE hK E K) | refine q_seq ?_ | refine c_ret ?_ | (refine q_ret ?_; refine q_r1 ?_; simp only [go_sem, simprocAttr, Nat.le_refl])
  repeat' ((first | refine r_opN fun κ η => ?_ | refine r_opG rfl fun κ η => ?_); simp only [go_sem, simprocAttr, Nat.le_refl]; (repeat refine ⟨by omega, ?_⟩); refine η _ ?_; clear η κ)
  refine r_call fun κ η => ?_; simp only [go_sem, simprocAttr, Nat.le_refl]; refine ⟨_, h4 _, ?_⟩; rintro _ o2 ⟨rfl, hlo⟩; simp only [go_sem, simprocAttr, Nat.le_refl]; refine η _ ?_; clear η κ
  repeat' first | (refine r_opN fun κ η => ?_; simp only [go_sem, simprocAttr, Nat.le_refl]; refine η _ ?_; clear η κ) | (refine r_nil (hK _ ?_); clear hE hK E K) | refine q_seq ?_ | refine c_ret ?_ | (refine q_ret ?_; refine q_r1 ?_; simp only [go_sem, simprocAttr, Nat.le_refl])
end Go.Proofs.YtbhoeanfnbkenaaDoor
