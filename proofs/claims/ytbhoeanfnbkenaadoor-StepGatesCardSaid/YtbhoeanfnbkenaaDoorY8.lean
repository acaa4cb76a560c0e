import Derived.Test.YtbhoeanfnbkenaaDoorY7
import Derived.Test.YtbhoeanfnbkenaaDoorR39
namespace Go.Proofs.YtbhoeanfnbkenaaDoor
open Go.RowKit Go.WideMaps
set_option maxRecDepth 100000
set_option linter.unusedSimpArgs false
variable (Hy : World → Prop)
attribute [local irreducible] runM runD cwp seqQ blkQ lpQ retQ asQ bdQ bdY retP endR preD retD
set_option maxHeartbeats 2000000 in
theorem rbools_ct (a b : List Bool) (ha : a.length ≤ 140737488355328) (hb : b.length ≤ 140737488355328) : Ct Tryd.prog Hy 43 [.sl (bl a), .sl (bl b)] [.b (decide (a = b))] := by
  obtain ⟨R, hR⟩ : ∃ R, R = decide (a = b) := ⟨_, rfl⟩
  rw [← hR]
  by_cases hl : a.length = b.length
  rotate_left
  · have hl' : ((a.length : Int) = b.length) = False := eq_false (by omega)
    obtain rfl : R = false := by
      rw [hR, decide_eq_false]
      rintro rfl
      exact hl rfl
    refine ct_of (cls := _root_.id) tt_ok follows_ Tryd.func43 rfl (by decide) (Nat.le_of_ble_eq_true rfl) ?_
    rw [show Tryd.f43.ntmps = 26 from rfl, s0_nf]
    simp only [List.zipIdx_cons, List.zipIdx_nil, List.map_cons, List.map_nil, Nat.reduceAdd]
    repeat' first | refine c_seq ?_ | refine c_reg' rfl fun K E hK hE => ?_ | (refine r_opN fun κ η => ?_; simp only [go_sem, simprocAttr, Nat.le_refl, hl']; refine η _ ?_; clear η κ) | (refine r_nil (hK _ ?_); clear hE hK E K) | refine q_seq ?_ | refine c_cond true rfl (fun _ => ?_) (fun h => (by cases h)) | refine c_ret ?_ | refine q_seqR ?_ | (refine q_ret ?_; refine q_r1 ?_; simp only [go_sem, simprocAttr, Nat.le_refl, hl'])
  have hl' : ((a.length : Int) = b.length) = True := eq_true (by omega)
  refine ct_of (cls := _root_.id) tt_ok follows_ Tryd.func43 rfl (by decide) (Nat.le_of_ble_eq_true rfl) ?_
  rw [show Tryd.f43.ntmps = 26 from rfl, s0_nf]
  simp only [List.zipIdx_cons, List.zipIdx_nil, List.map_cons, List.map_nil, Nat.reduceAdd]
  repeat' first | refine c_seq ?_ | refine c_block ?_ | refine c_reg' rfl fun K E hK hE => ?_ | (refine r_opN fun κ η => ?_; simp only [go_sem, simprocAttr, Nat.le_refl, hl']; refine η _ ?_; clear η κ) | (refine r_nil (hK _ ?_); clear hE hK E K) | refine q_seq ?_ | refine c_cond false rfl (fun h => (by cases h)) fun _ => ?_ | refine c_skip ?_
  refine c_loop (fun m s' => ∃ k : Nat, m = a.length - k ∧ k ≤ a.length ∧ (∀ (j : Nat), j < k → a[j]? = b[j]?) ∧ ∃ F G0, s' = nf 26 F G0 [(0, .t (.sl (bl a))), (1, .t (.sl (bl b))), (5, .t (.i .i64 k))] []) a.length ?_ ?_
  · exact ⟨0, by omega, by omega, fun j hj => absurd hj (Nat.not_lt_zero j), _, _, nf_of rfl ⟨rfl, rfl, rfl, trivial⟩ trivial⟩
  rintro m s' ⟨k, rfl, hk, hno, F, G0, rfl⟩
  by_cases hd : k < a.length
  · have hd' : ((k : Int) < a.length) = True := eq_true (by omega)
    obtain ⟨x, hx⟩ : ∃ x, a[k]? = some x := ⟨_, List.getElem?_eq_getElem (by omega)⟩
    obtain ⟨y, hy⟩ : ∃ y, b[k]? = some y := ⟨_, List.getElem?_eq_getElem (by omega)⟩
    have hx' := bl_get hx
    have hy' := bl_get hy
    by_cases he : x = y
    · have hne : (x != y) = false := by rw [he]; cases y <;> rfl
      · repeat' first | refine c_seq ?_ | refine c_block ?_ | refine c_reg' rfl fun K E hK hE => ?_ | refine c_draw' rfl (by kernel_rfl) fun K E hK hE => ?_ | ((first | refine r_opN fun κ η => ?_ | refine d_opN (by kernel_rfl) fun κ η => ?_); simp only [go_sem, simprocAttr, Nat.le_refl, hd', hx', hy', hne]; (repeat refine ⟨by omega, ?_⟩); refine η _ ?_; clear η κ) | (refine r_nil (hK _ ?_); clear hE hK E K) | refine q_seq ?_ | refine c_cond true rfl (fun _ => ?_) (fun h => (by cases h)) | refine c_cond false rfl (fun h => (by cases h)) fun _ => ?_ | (refine d_nil (hK _ ?_); clear hE hK E K) | refine q_blk ?_ | refine c_skip ?_ | refine q_lpN ?_
        refine ⟨a.length - (k + 1), by omega, k + 1, rfl, by omega, fun j hj => ?_, _, _, nf_of rfl ⟨rfl, rfl, rfl, trivial⟩ trivial⟩
        rcases Nat.lt_or_eq_of_le (Nat.lt_succ_iff.1 hj) with h | rfl
        · exact hno j h
        · rw [hx, hy, he]
    · have hne : (x != y) = true := by cases x <;> cases y <;> first | rfl | exact absurd rfl he
      obtain rfl : R = false := by
        rw [hR, decide_eq_false]
        rintro rfl
        rw [hx] at hy
        exact he (Option.some.inj hy)
      · repeat' first | refine c_seq ?_ | refine c_block ?_ | refine c_reg' rfl fun K E hK hE => ?_ | refine c_draw' rfl (by kernel_rfl) fun K E hK hE => ?_ | ((first | refine r_opN fun κ η => ?_ | refine d_opN (by kernel_rfl) fun κ η => ?_); simp only [go_sem, simprocAttr, Nat.le_refl, hd', hx', hy', hne]; (repeat refine ⟨by omega, ?_⟩); refine η _ ?_; clear η κ) | (refine r_nil (hK _ ?_); clear hE hK E K) | refine q_seq ?_ | refine c_cond true rfl (fun _ => ?_) (fun h => (by cases h)) | (refine d_nil (hK _ ?_); clear hE hK E K) | refine c_skip ?_ | refine c_ret ?_ | refine q_seqR ?_ | refine q_blkR ?_ | refine q_lpR ?_ | (refine q_ret ?_; refine q_r1 ?_; simp only [go_sem, simprocAttr, Nat.le_refl, hd', hx', hy', hne])
  have hd' : ((k : Int) < a.length) = False := eq_false (by omega)
  obtain rfl : R = true := by
    rw [hR, decide_eq_true_eq]
    refine List.ext_getElem? fun j => ?_
    by_cases hj : j < k
    · exact hno j hj
    · rw [List.getElem?_eq_none (by omega), List.getElem?_eq_none (by omega)]
  repeat' first | refine c_seq ?_ | refine c_reg' rfl fun K E hK hE => ?_ | (refine r_opN fun κ η => ?_; simp only [go_sem, simprocAttr, Nat.le_refl, hd']; refine η _ ?_; clear η κ) | (refine r_nil (hK _ ?_); clear hE hK E K) | refine q_seq ?_ | refine c_cond false rfl (fun h => (by cases h)) fun _ => ?_ | refine c_exit ?_ | refine c_ret ?_ | refine q_seqE ?_ | refine q_blkHit ?_ | refine q_lpE ?_ | (refine q_ret ?_; refine q_r1 ?_; simp only [go_sem, simprocAttr, Nat.le_refl, hd'])
set_option maxHeartbeats 2000000 in
theorem rrows_ct (a b : List (List Bool)) (hal : ∀ x ∈ a, x.length ≤ 140737488355328) (hbl : ∀ x ∈ b, x.length ≤ 140737488355328) (ha : a.length ≤ 140737488355328) (hb : b.length ≤ 140737488355328) : Ct Tryd.prog Hy 41 [.sl (bb a), .sl (bb b)] [.b (decide (a = b))] := by
  obtain ⟨R, hR⟩ : ∃ R, R = decide (a = b) := ⟨_, rfl⟩
  rw [← hR]
  by_cases hl : a.length = b.length
  rotate_left
  · have hl' : ((a.length : Int) = b.length) = False := eq_false (by omega)
    obtain rfl : R = false := by
      rw [hR, decide_eq_false]
      rintro rfl
      exact hl rfl
    refine ct_of (cls := _root_.id) tt_ok follows_ Tryd.func41 rfl (by decide) (Nat.le_of_ble_eq_true rfl) ?_
    rw [show Tryd.f41.ntmps = 27 from rfl, s0_nf]
    simp only [List.zipIdx_cons, List.zipIdx_nil, List.map_cons, List.map_nil, Nat.reduceAdd]
    repeat' first | refine c_seq ?_ | refine c_reg' rfl fun K E hK hE => ?_ | (refine r_opN fun κ η => ?_; simp only [go_sem, simprocAttr, Nat.le_refl, hl']; refine η _ ?_; clear η κ) | (refine r_nil (hK _ ?_); clear hE hK E K) | refine q_seq ?_ | refine c_cond true rfl (fun _ => ?_) (fun h => (by cases h)) | refine c_ret ?_ | refine q_seqR ?_ | (refine q_ret ?_; refine q_r1 ?_; simp only [go_sem, simprocAttr, Nat.le_refl, hl'])
  have hl' : ((a.length : Int) = b.length) = True := eq_true (by omega)
  refine ct_of (cls := _root_.id) tt_ok follows_ Tryd.func41 rfl (by decide) (Nat.le_of_ble_eq_true rfl) ?_
  rw [show Tryd.f41.ntmps = 27 from rfl, s0_nf]
  simp only [List.zipIdx_cons, List.zipIdx_nil, List.map_cons, List.map_nil, Nat.reduceAdd]
  repeat' first | refine c_seq ?_ | refine c_block ?_ | refine c_reg' rfl fun K E hK hE => ?_ | (refine r_opN fun κ η => ?_; simp only [go_sem, simprocAttr, Nat.le_refl, hl']; refine η _ ?_; clear η κ) | (refine r_nil (hK _ ?_); clear hE hK E K) | refine q_seq ?_ | refine c_cond false rfl (fun h => (by cases h)) fun _ => ?_ | refine c_skip ?_
  refine c_loop (fun m s' => ∃ k : Nat, m = a.length - k ∧ k ≤ a.length ∧ (∀ (j : Nat), j < k → a[j]? = b[j]?) ∧ ∃ F G0, s' = nf 27 F G0 [(0, .t (.sl (bb a))), (1, .t (.sl (bb b))), (5, .t (.i .i64 k))] []) a.length ?_ ?_
  · exact ⟨0, by omega, by omega, fun j hj => absurd hj (Nat.not_lt_zero j), _, _, nf_of rfl ⟨rfl, rfl, rfl, trivial⟩ trivial⟩
  rintro m s' ⟨k, rfl, hk, hno, F, G0, rfl⟩
  by_cases hd : k < a.length
  · have hd' : ((k : Int) < a.length) = True := eq_true (by omega)
    obtain ⟨x, hx⟩ : ∃ x, a[k]? = some x := ⟨_, List.getElem?_eq_getElem (by omega)⟩
    obtain ⟨y, hy⟩ : ∃ y, b[k]? = some y := ⟨_, List.getElem?_eq_getElem (by omega)⟩
    have hx' := bb_get hx
    have hy' := bb_get hy
    by_cases he : x = y
    · have hc := rbools_ct Hy x y (hal x (List.mem_of_getElem? hx)) (hbl y (List.mem_of_getElem? hy))
      rw [decide_eq_true he] at hc
      · repeat' first | refine c_seq ?_ | refine c_block ?_ | refine c_reg' rfl fun K E hK hE => ?_ | refine c_draw' rfl (by kernel_rfl) fun K E hK hE => ?_ | ((first | refine r_opN fun κ η => ?_ | refine d_opN (by kernel_rfl) fun κ η => ?_); simp only [go_sem, simprocAttr, Nat.le_refl, hd', hx', hy']; (repeat refine ⟨by omega, ?_⟩); refine η _ ?_; clear η κ) | (refine r_nil (hK _ ?_); clear hE hK E K) | refine q_seq ?_ | refine c_cond true rfl (fun _ => ?_) (fun h => (by cases h)) | refine c_skip ?_
        refine d_opN (by kernel_rfl) fun κ η => ?_; simp only [go_sem, simprocAttr, Nat.le_refl]; refine ⟨_, hc, ?_⟩; simp only [go_sem, simprocAttr, Nat.le_refl]; refine η _ ?_; clear η κ
        repeat' first | refine c_reg' rfl fun K E hK hE => ?_ | ((first | refine r_opN fun κ η => ?_ | refine d_opN (by kernel_rfl) fun κ η => ?_); simp only [go_sem, simprocAttr, Nat.le_refl]; (repeat refine ⟨by omega, ?_⟩); refine η _ ?_; clear η κ) | (refine r_nil (hK _ ?_); clear hE hK E K) | refine q_seq ?_ | refine c_cond false rfl (fun h => (by cases h)) fun _ => ?_ | (refine d_nil (hK _ ?_); clear hE hK E K) | refine q_blk ?_ | refine c_skip ?_ | refine q_lpN ?_
        refine ⟨a.length - (k + 1), by omega, k + 1, rfl, by omega, fun j hj => ?_, _, _, nf_of rfl ⟨rfl, rfl, rfl, trivial⟩ trivial⟩
        rcases Nat.lt_or_eq_of_le (Nat.lt_succ_iff.1 hj) with h | rfl
        · exact hno j h
        · rw [hx, hy, he]
    · have hc := rbools_ct Hy x y (hal x (List.mem_of_getElem? hx)) (hbl y (List.mem_of_getElem? hy))
      rw [decide_eq_false he] at hc
      obtain rfl : R = false := by
        rw [hR, decide_eq_false]
        rintro rfl
        rw [hx] at hy
        exact he (Option.some.inj hy)
      · repeat' first | refine c_seq ?_ | refine c_block ?_ | refine c_reg' rfl fun K E hK hE => ?_ | refine c_draw' rfl (by kernel_rfl) fun K E hK hE => ?_ | ((first | refine r_opN fun κ η => ?_ | refine d_opN (by kernel_rfl) fun κ η => ?_); simp only [go_sem, simprocAttr, Nat.le_refl, hd', hx', hy']; (repeat refine ⟨by omega, ?_⟩); refine η _ ?_; clear η κ) | (refine r_nil (hK _ ?_); clear hE hK E K) | refine q_seq ?_ | refine c_cond true rfl (fun _ => ?_) (fun h => (by cases h)) | refine c_skip ?_
        refine d_opN (by kernel_rfl) fun κ η => ?_; simp only [go_sem, simprocAttr, Nat.le_refl]; refine ⟨_, hc, ?_⟩; simp only [go_sem, simprocAttr, Nat.le_refl]; refine η _ ?_; clear η κ
        repeat' first | refine c_seq ?_ | refine c_reg' rfl fun K E hK hE => ?_ | ((first | refine r_opN fun κ η => ?_ | refine d_opN (by kernel_rfl) fun κ η => ?_); simp only [go_sem, simprocAttr, Nat.le_refl]; refine η _ ?_; clear η κ) | (refine r_nil (hK _ ?_); clear hE hK E K) | refine q_seq ?_ | refine c_cond true rfl (fun _ => ?_) (fun h => (by cases h)) | (refine d_nil (hK _ ?_); clear hE hK E K) | refine c_ret ?_ | refine q_seqR ?_ | refine q_blkR ?_ | refine q_lpR ?_ | (refine q_ret ?_; refine q_r1 ?_; simp only [go_sem, simprocAttr, Nat.le_refl])
  have hd' : ((k : Int) < a.length) = False := eq_false (by omega)
  obtain rfl : R = true := by
    rw [hR, decide_eq_true_eq]
    refine List.ext_getElem? fun j => ?_
    by_cases hj : j < k
    · exact hno j hj
    · rw [List.getElem?_eq_none (by omega), List.getElem?_eq_none (by omega)]
  repeat' first | refine c_seq ?_ | refine c_reg' rfl fun K E hK hE => ?_ | (refine r_opN fun κ η => ?_; simp only [go_sem, simprocAttr, Nat.le_refl, hd']; refine η _ ?_; clear η κ) | (refine r_nil (hK _ ?_); clear hE hK E K) | refine q_seq ?_ | refine c_cond false rfl (fun h => (by cases h)) fun _ => ?_ | refine c_exit ?_ | refine c_ret ?_ | refine q_seqE ?_ | refine q_blkHit ?_ | refine q_lpE ?_ | (refine q_ret ?_; refine q_r1 ?_; simp only [go_sem, simprocAttr, Nat.le_refl, hd'])
end Go.Proofs.YtbhoeanfnbkenaaDoor
