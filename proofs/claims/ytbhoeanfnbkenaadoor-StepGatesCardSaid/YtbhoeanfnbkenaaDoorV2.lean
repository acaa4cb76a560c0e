import Derived.Test.YtbhoeanfnbkenaaDoorV1
import Derived.Test.YtbhoeanfnbkenaaDoorQ5
namespace Go.Proofs.YtbhoeanfnbkenaaDoor
open Go.RowKit
set_option maxRecDepth 100000
set_option linter.unusedSimpArgs false
variable (Hy : World → Prop)
attribute [local irreducible] runM runD cwp seqQ blkQ lpQ retQ asQ bdQ bdY retP endR preD retD
def rowsC (op : Int) (n : Nat) : List Row × Bool :=
  if op = 0 then ([], false) else if op = 1 then ([[]], false) else if op = 2 then ([[49]], false) else if op = 3 then ([[48]], false)
  else if op = 4 then ([allR 49 n], false) else if op = 5 then ([allR 49 n], true) else if op = 6 then ([allR 48 n], true) else if op = 7 then ([allR 48 n], false)
  else if op = 8 then (oddR n 1 (2 ^ n), false) else (oddR n 0 (2 ^ n), false)
set_option maxHeartbeats 4000000 in
theorem rows6_ct (op : Int) (n : Nat) (hop : opB op = true) (h10 : op ≠ 10) (hn : loF op ≤ n ∧ (n : Int) ≤ hiF op) : Ct Tryd.prog Hy 72 [.i .i64 op, .i .i64 n] [.sl (rR (rowsC op n).1), .b (rowsC op n).2, .b true] := by
  have ho := of_decide_eq_true hop
  have hcase : op = 0 ∨ op = 1 ∨ op = 2 ∨ op = 3 ∨ op = 4 ∨ op = 5 ∨ op = 6 ∨ op = 7 ∨ op = 8 ∨ op = 9 := by omega
  rcases hcase with rfl | rfl | rfl | rfl | rfl | rfl | rfl | rfl | rfl | rfl
  · have hn : (0 : Int) ≤ n ∧ (n : Int) ≤ 0 := hn
    obtain rfl : n = 0 := by omega
    refine ct_of (cls := _root_.id) tt_ok follows_ Tryd.func72 rfl (by decide) (Nat.le_of_ble_eq_true rfl) ?_
    rw [show Tryd.f72.ntmps = 85 from rfl, s0_nf]
    simp only [List.zipIdx_cons, List.zipIdx_nil, List.map_cons, List.map_nil, Nat.reduceAdd]
    repeat' first | refine c_seq ?_ | refine c_block ?_ | refine c_reg' rfl fun K E hK hE => ?_ | (refine r_opN fun κ η => ?_; simp only [go_sem, simprocAttr, Nat.le_refl, Int.natCast_zero, Int.reduceEq]; refine η _ ?_; clear η κ) | (refine r_nil (hK _ ?_); clear hE hK E K) | refine q_seq ?_ | refine c_cond true rfl (fun _ => ?_) (fun h => (by cases h)) | refine c_ret ?_ | refine q_seqR ?_ | refine q_blkR ?_ | (refine q_ret ?_; refine q_r1 ?_; simp only [go_sem, simprocAttr, Nat.le_refl, Int.natCast_zero, Int.reduceEq])
    rfl
  · have hn : (0 : Int) ≤ n ∧ (n : Int) ≤ 0 := hn
    obtain rfl : n = 0 := by omega
    refine ct_of (cls := _root_.id) tt_ok follows_ Tryd.func72 rfl (by decide) (Nat.le_of_ble_eq_true rfl) ?_
    rw [show Tryd.f72.ntmps = 85 from rfl, s0_nf]
    simp only [List.zipIdx_cons, List.zipIdx_nil, List.map_cons, List.map_nil, Nat.reduceAdd]
    repeat' first | refine c_seq ?_ | refine c_block ?_ | refine c_reg' rfl fun K E hK hE => ?_ | (refine r_opN fun κ η => ?_; simp only [go_sem, simprocAttr, Nat.le_refl, Int.natCast_zero, Int.reduceEq]; refine η _ ?_; clear η κ) | (refine r_nil (hK _ ?_); clear hE hK E K) | refine q_seq ?_ | refine c_cond true rfl (fun _ => ?_) (fun h => (by cases h)) | refine c_cond false rfl (fun h => (by cases h)) fun _ => ?_ | refine c_ret ?_ | refine q_seqR ?_ | refine q_blkR ?_ | (refine q_ret ?_; refine q_r1 ?_; simp only [go_sem, simprocAttr, Nat.le_refl, Int.natCast_zero, Int.reduceEq])
    rfl
  · have hn : (1 : Int) ≤ n ∧ (n : Int) ≤ 1 := hn
    obtain rfl : n = 1 := by omega
    refine ct_of (cls := _root_.id) tt_ok follows_ Tryd.func72 rfl (by decide) (Nat.le_of_ble_eq_true rfl) ?_
    rw [show Tryd.f72.ntmps = 85 from rfl, s0_nf]
    simp only [List.zipIdx_cons, List.zipIdx_nil, List.map_cons, List.map_nil, Nat.reduceAdd]
    repeat' first | refine c_seq ?_ | refine c_block ?_ | refine c_reg' rfl fun K E hK hE => ?_ | (refine r_opN fun κ η => ?_; simp only [go_sem, simprocAttr, Nat.le_refl, Int.natCast_one, Int.reduceEq]; refine η _ ?_; clear η κ) | (refine r_nil (hK _ ?_); clear hE hK E K) | refine q_seq ?_ | refine c_cond true rfl (fun _ => ?_) (fun h => (by cases h)) | refine c_cond false rfl (fun h => (by cases h)) fun _ => ?_ | refine c_ret ?_ | refine q_seqR ?_ | refine q_blkR ?_ | (refine q_ret ?_; refine q_r1 ?_; simp only [go_sem, simprocAttr, Nat.le_refl, Int.natCast_one, Int.reduceEq])
    rfl
  · have hn : (1 : Int) ≤ n ∧ (n : Int) ≤ 1 := hn
    obtain rfl : n = 1 := by omega
    refine ct_of (cls := _root_.id) tt_ok follows_ Tryd.func72 rfl (by decide) (Nat.le_of_ble_eq_true rfl) ?_
    rw [show Tryd.f72.ntmps = 85 from rfl, s0_nf]
    simp only [List.zipIdx_cons, List.zipIdx_nil, List.map_cons, List.map_nil, Nat.reduceAdd]
    repeat' first | refine c_seq ?_ | refine c_block ?_ | refine c_reg' rfl fun K E hK hE => ?_ | (refine r_opN fun κ η => ?_; simp only [go_sem, simprocAttr, Nat.le_refl, Int.natCast_one, Int.reduceEq]; refine η _ ?_; clear η κ) | (refine r_nil (hK _ ?_); clear hE hK E K) | refine q_seq ?_ | refine c_cond true rfl (fun _ => ?_) (fun h => (by cases h)) | refine c_cond false rfl (fun h => (by cases h)) fun _ => ?_ | refine c_ret ?_ | refine q_seqR ?_ | refine q_blkR ?_ | (refine q_ret ?_; refine q_r1 ?_; simp only [go_sem, simprocAttr, Nat.le_refl, Int.natCast_one, Int.reduceEq])
    rfl
  · have hn : (2 : Int) ≤ n ∧ (n : Int) ≤ 8 := hn
    have hc := all6_ct Hy 49 n (by omega)
    have e2 := eq_true hn.1
    have e8 := eq_true hn.2
    rw [show rowsC 4 n = ([allR 49 n], false) from rfl]
    refine ct_of (cls := _root_.id) tt_ok follows_ Tryd.func72 rfl (by decide) (Nat.le_of_ble_eq_true rfl) ?_
    rw [show Tryd.f72.ntmps = 85 from rfl, s0_nf]
    simp only [List.zipIdx_cons, List.zipIdx_nil, List.map_cons, List.map_nil, Nat.reduceAdd, rR, List.map_cons, List.map_nil]
    repeat' first | refine c_seq ?_ | refine c_block ?_ | refine c_reg' rfl fun K E hK hE => ?_ | (refine r_opN fun κ η => ?_; simp only [go_sem, simprocAttr, Nat.le_refl, Int.reduceEq, e2, e8]; refine η _ ?_; clear η κ) | (refine r_nil (hK _ ?_); clear hE hK E K) | refine q_seq ?_ | refine c_cond true rfl (fun _ => ?_) (fun h => (by cases h)) | refine c_cond false rfl (fun h => (by cases h)) fun _ => ?_
    refine r_opN fun κ η => ?_; simp only [go_sem, simprocAttr, Nat.le_refl]; refine ⟨_, hc, ?_⟩; simp only [go_sem, simprocAttr, Nat.le_refl]; refine η _ ?_; clear η κ
    repeat' first | ((first | refine r_opN fun κ η => ?_ | refine r_opG rfl fun κ η => ?_); simp only [go_sem, simprocAttr, Nat.le_refl, Int.reduceEq, e2, e8]; refine η _ ?_; clear η κ) | (refine r_nil (hK _ ?_); clear hE hK E K) | refine q_seq ?_ | refine c_ret ?_ | refine q_seqR ?_ | refine q_blkR ?_ | (refine q_ret ?_; refine q_r1 ?_; simp only [go_sem, simprocAttr, Nat.le_refl, Int.reduceEq, e2, e8])
  · have hn : (2 : Int) ≤ n ∧ (n : Int) ≤ 8 := hn
    have hc := all6_ct Hy 49 n (by omega)
    have e2 := eq_true hn.1
    have e8 := eq_true hn.2
    rw [show rowsC 5 n = ([allR 49 n], true) from rfl]
    refine ct_of (cls := _root_.id) tt_ok follows_ Tryd.func72 rfl (by decide) (Nat.le_of_ble_eq_true rfl) ?_
    rw [show Tryd.f72.ntmps = 85 from rfl, s0_nf]
    simp only [List.zipIdx_cons, List.zipIdx_nil, List.map_cons, List.map_nil, Nat.reduceAdd, rR, List.map_cons, List.map_nil]
    repeat' first | refine c_seq ?_ | refine c_block ?_ | refine c_reg' rfl fun K E hK hE => ?_ | (refine r_opN fun κ η => ?_; simp only [go_sem, simprocAttr, Nat.le_refl, Int.reduceEq, e2, e8]; refine η _ ?_; clear η κ) | (refine r_nil (hK _ ?_); clear hE hK E K) | refine q_seq ?_ | refine c_cond true rfl (fun _ => ?_) (fun h => (by cases h)) | refine c_cond false rfl (fun h => (by cases h)) fun _ => ?_
    refine r_opN fun κ η => ?_; simp only [go_sem, simprocAttr, Nat.le_refl]; refine ⟨_, hc, ?_⟩; simp only [go_sem, simprocAttr, Nat.le_refl]; refine η _ ?_; clear η κ
    repeat' first | ((first | refine r_opN fun κ η => ?_ | refine r_opG rfl fun κ η => ?_); simp only [go_sem, simprocAttr, Nat.le_refl, Int.reduceEq, e2, e8]; refine η _ ?_; clear η κ) | (refine r_nil (hK _ ?_); clear hE hK E K) | refine q_seq ?_ | refine c_ret ?_ | refine q_seqR ?_ | refine q_blkR ?_ | (refine q_ret ?_; refine q_r1 ?_; simp only [go_sem, simprocAttr, Nat.le_refl, Int.reduceEq, e2, e8])
  · have hn : (2 : Int) ≤ n ∧ (n : Int) ≤ 8 := hn
    have hc := all6_ct Hy 48 n (by omega)
    have e2 := eq_true hn.1
    have e8 := eq_true hn.2
    rw [show rowsC 6 n = ([allR 48 n], true) from rfl]
    refine ct_of (cls := _root_.id) tt_ok follows_ Tryd.func72 rfl (by decide) (Nat.le_of_ble_eq_true rfl) ?_
    rw [show Tryd.f72.ntmps = 85 from rfl, s0_nf]
    simp only [List.zipIdx_cons, List.zipIdx_nil, List.map_cons, List.map_nil, Nat.reduceAdd, rR, List.map_cons, List.map_nil]
    repeat' first | refine c_seq ?_ | refine c_block ?_ | refine c_reg' rfl fun K E hK hE => ?_ | (refine r_opN fun κ η => ?_; simp only [go_sem, simprocAttr, Nat.le_refl, Int.reduceEq, e2, e8]; refine η _ ?_; clear η κ) | (refine r_nil (hK _ ?_); clear hE hK E K) | refine q_seq ?_ | refine c_cond true rfl (fun _ => ?_) (fun h => (by cases h)) | refine c_cond false rfl (fun h => (by cases h)) fun _ => ?_
    refine r_opN fun κ η => ?_; simp only [go_sem, simprocAttr, Nat.le_refl]; refine ⟨_, hc, ?_⟩; simp only [go_sem, simprocAttr, Nat.le_refl]; refine η _ ?_; clear η κ
    repeat' first | ((first | refine r_opN fun κ η => ?_ | refine r_opG rfl fun κ η => ?_); simp only [go_sem, simprocAttr, Nat.le_refl, Int.reduceEq, e2, e8]; refine η _ ?_; clear η κ) | (refine r_nil (hK _ ?_); clear hE hK E K) | refine q_seq ?_ | refine c_ret ?_ | refine q_seqR ?_ | refine q_blkR ?_ | (refine q_ret ?_; refine q_r1 ?_; simp only [go_sem, simprocAttr, Nat.le_refl, Int.reduceEq, e2, e8])
  · have hn : (2 : Int) ≤ n ∧ (n : Int) ≤ 8 := hn
    have hc := all6_ct Hy 48 n (by omega)
    have e2 := eq_true hn.1
    have e8 := eq_true hn.2
    rw [show rowsC 7 n = ([allR 48 n], false) from rfl]
    refine ct_of (cls := _root_.id) tt_ok follows_ Tryd.func72 rfl (by decide) (Nat.le_of_ble_eq_true rfl) ?_
    rw [show Tryd.f72.ntmps = 85 from rfl, s0_nf]
    simp only [List.zipIdx_cons, List.zipIdx_nil, List.map_cons, List.map_nil, Nat.reduceAdd, rR, List.map_cons, List.map_nil]
    repeat' first | refine c_seq ?_ | refine c_block ?_ | refine c_reg' rfl fun K E hK hE => ?_ | (refine r_opN fun κ η => ?_; simp only [go_sem, simprocAttr, Nat.le_refl, Int.reduceEq, e2, e8]; refine η _ ?_; clear η κ) | (refine r_nil (hK _ ?_); clear hE hK E K) | refine q_seq ?_ | refine c_cond true rfl (fun _ => ?_) (fun h => (by cases h)) | refine c_cond false rfl (fun h => (by cases h)) fun _ => ?_
    refine r_opN fun κ η => ?_; simp only [go_sem, simprocAttr, Nat.le_refl]; refine ⟨_, hc, ?_⟩; simp only [go_sem, simprocAttr, Nat.le_refl]; refine η _ ?_; clear η κ
    repeat' first | ((first | refine r_opN fun κ η => ?_ | refine r_opG rfl fun κ η => ?_); simp only [go_sem, simprocAttr, Nat.le_refl, Int.reduceEq, e2, e8]; refine η _ ?_; clear η κ) | (refine r_nil (hK _ ?_); clear hE hK E K) | refine q_seq ?_ | refine c_ret ?_ | refine q_seqR ?_ | refine q_blkR ?_ | (refine q_ret ?_; refine q_r1 ?_; simp only [go_sem, simprocAttr, Nat.le_refl, Int.reduceEq, e2, e8])
  · have hn : (2 : Int) ≤ n ∧ (n : Int) ≤ 8 := hn
    have hc := odd6_ct Hy n 1 (by omega)
    have e2 : ((n : Int) < 2) = False := eq_false (by omega)
    have e8 : (8 < (n : Int)) = False := eq_false (by omega)
    rw [show rowsC 8 n = (oddR n 1 (2 ^ n), false) from rfl]
    generalize rR (oddR n 1 (2 ^ n)) = rws at *
    refine ct_of (cls := _root_.id) tt_ok follows_ Tryd.func72 rfl (by decide) (Nat.le_of_ble_eq_true rfl) ?_
    rw [show Tryd.f72.ntmps = 85 from rfl, s0_nf]
    simp only [List.zipIdx_cons, List.zipIdx_nil, List.map_cons, List.map_nil, Nat.reduceAdd]
    repeat' first | refine c_seq ?_ | refine c_block ?_ | refine c_reg' rfl fun K E hK hE => ?_ | ((first | refine r_opN fun κ η => ?_ | refine r_opG rfl fun κ η => ?_); simp only [go_sem, simprocAttr, Nat.le_refl, Int.reduceEq, e2, e8]; refine η _ ?_; clear η κ) | (refine r_nil (hK _ ?_); clear hE hK E K) | refine q_seq ?_ | refine c_cond true rfl (fun _ => ?_) (fun h => (by cases h)) | refine c_cond false rfl (fun h => (by cases h)) fun _ => ?_ | refine q_blk ?_ | refine c_skip ?_
    refine r_opN fun κ η => ?_; simp only [go_sem, simprocAttr, Nat.le_refl]; refine ⟨_, hc, ?_⟩; simp only [go_sem, simprocAttr, Nat.le_refl]; refine η _ ?_; clear η κ
    repeat' first | (refine r_opN fun κ η => ?_; simp only [go_sem, simprocAttr, Nat.le_refl, Int.reduceEq, e2, e8]; refine η _ ?_; clear η κ) | (refine r_nil (hK _ ?_); clear hE hK E K) | refine q_seq ?_ | refine c_ret ?_ | refine q_seqR ?_ | (refine q_ret ?_; refine q_r1 ?_; simp only [go_sem, simprocAttr, Nat.le_refl, Int.reduceEq, e2, e8])
  · have hn : (2 : Int) ≤ n ∧ (n : Int) ≤ 8 := hn
    have hc := odd6_ct Hy n 0 (by omega)
    have e2 : ((n : Int) < 2) = False := eq_false (by omega)
    have e8 : (8 < (n : Int)) = False := eq_false (by omega)
    rw [show rowsC 9 n = (oddR n 0 (2 ^ n), false) from rfl]
    generalize rR (oddR n 0 (2 ^ n)) = rws at *
    refine ct_of (cls := _root_.id) tt_ok follows_ Tryd.func72 rfl (by decide) (Nat.le_of_ble_eq_true rfl) ?_
    rw [show Tryd.f72.ntmps = 85 from rfl, s0_nf]
    simp only [List.zipIdx_cons, List.zipIdx_nil, List.map_cons, List.map_nil, Nat.reduceAdd]
    repeat' first | refine c_seq ?_ | refine c_block ?_ | refine c_reg' rfl fun K E hK hE => ?_ | ((first | refine r_opN fun κ η => ?_ | refine r_opG rfl fun κ η => ?_); simp only [go_sem, simprocAttr, Nat.le_refl, Int.reduceEq, e2, e8]; refine η _ ?_; clear η κ) | (refine r_nil (hK _ ?_); clear hE hK E K) | refine q_seq ?_ | refine c_cond false rfl (fun h => (by cases h)) fun _ => ?_ | refine q_blk ?_ | refine c_skip ?_
    refine r_opN fun κ η => ?_; simp only [go_sem, simprocAttr, Nat.le_refl]; refine ⟨_, hc, ?_⟩; simp only [go_sem, simprocAttr, Nat.le_refl]; refine η _ ?_; clear η κ
    repeat' first | (refine r_opN fun κ η => ?_; simp only [go_sem, simprocAttr, Nat.le_refl, Int.reduceEq, e2, e8]; refine η _ ?_; clear η κ) | (refine r_nil (hK _ ?_); clear hE hK E K) | refine q_seq ?_ | refine c_ret ?_ | (refine q_ret ?_; refine q_r1 ?_; simp only [go_sem, simprocAttr, Nat.le_refl, Int.reduceEq, e2, e8])
set_option maxHeartbeats 4000000 in
theorem rfits_ct (r : Row) (ins : List Bool) (hl : ins.length ≤ r.length) (hr : r.length ≤ 1000000) : Ct Tryd.prog Hy 73 [.s (mk r), bL ins] [.b (fitB r ins)] := by
  have hz : (List.zipWith fit1 r ins).length = ins.length := by rw [List.length_zipWith]; omega
  refine ct_of (cls := _root_.id) tt_ok follows_ Tryd.func73 rfl (by decide) (Nat.le_of_ble_eq_true rfl) ?_
  rw [show Tryd.f73.ntmps = 35 from rfl, s0_nf]
  simp only [List.zipIdx_cons, List.zipIdx_nil, List.map_cons, List.map_nil, Nat.reduceAdd, bL]
  repeat' first | refine c_seq ?_ | refine c_block ?_ | refine c_reg' rfl fun K E hK hE => ?_ | (refine r_opN fun κ η => ?_; simp only [go_sem, simprocAttr, Nat.le_refl]; refine η _ ?_; clear η κ) | (refine r_nil (hK _ ?_); clear hE hK E K) | refine q_seq ?_
  refine c_loop (fun m s' => ∃ k : Nat, m = ins.length - k ∧ k ≤ ins.length ∧ (∀ (j : Nat) y, j < k → (List.zipWith fit1 r ins)[j]? = some y → y = true) ∧ ∃ F G0, s' = nf 35 F G0 [(0, .t (.s (mk r))), (1, .t (bL ins)), (5, .t (.i .i64 k))] []) (ins.length) ?_ ?_
  · exact ⟨0, by omega, by omega, fun j x hj => absurd hj (Nat.not_lt_zero j), _, _, nf_of rfl ⟨rfl, rfl, rfl, trivial⟩ trivial⟩
  rintro m s' ⟨k, rfl, hk, hno, F, G0, rfl⟩
  simp only [bL]
  repeat' first | refine c_seq ?_ | refine c_reg' rfl fun K E hK hE => ?_ | (refine r_opN fun κ η => ?_; simp only [go_sem, simprocAttr, Nat.le_refl]; refine η _ ?_; clear η κ) | (refine r_nil (hK _ ?_); clear hE hK E K) | refine q_seq ?_
  refine c_cond _ rfl (fun hq => ?_) (fun hq => ?_)
  · simp only [decide_eq_true_eq] at hq
    obtain ⟨v, hv⟩ : ∃ v, ins[k]? = some v := ⟨_, List.getElem?_eq_getElem (by omega)⟩
    obtain ⟨c, hc⟩ : ∃ c, r[k]? = some c := ⟨_, List.getElem?_eq_getElem (by omega)⟩
    have hw : (List.zipWith fit1 r ins)[k]? = some (fit1 c v) := by rw [List.getElem?_zipWith, hc, hv]
    have hgo : fit1 c v = true → ∀ (j : Nat) y, j < k + 1 → (List.zipWith fit1 r ins)[j]? = some y → y = true := fun h j y hj hy => by
      rcases Nat.lt_or_eq_of_le (Nat.lt_succ_iff.1 hj) with h1 | rfl
      · exact hno j y h1 hy
      · rw [hw] at hy; cases hy; exact h
    have hbad : fit1 c v = false → fitB r ins = false := fun h => by
      unfold fitB
      rw [List.all_eq_false]
      exact ⟨_, List.mem_of_getElem? hw, by rw [h]; decide⟩
    by_cases c9 : c = 49
    · have h9 : ((c.toNat : Int) = 49) = True := by rw [c49]; exact eq_true c9
      have h8 : ((c.toNat : Int) = 48) = False := by rw [c48, c9]; decide
      cases v with
      | true =>
        repeat' first | refine c_seq ?_ | refine c_block ?_ | refine c_reg' rfl fun K E hK hE => ?_ | ((first | refine r_opN fun κ η => ?_ | refine r_opG rfl fun κ η => ?_); simp only [go_sem, simprocAttr, Nat.le_refl, hv, mk_get, hc, Int.toNat_natCast, h9, h8]; (repeat refine ⟨by omega, ?_⟩); refine η _ ?_; clear η κ) | (refine r_nil (hK _ ?_); clear hE hK E K) | refine q_seq ?_ | refine c_skip ?_
        refine c_cond _ rfl (fun hq => (by cases hq)) (fun hq => ?_)
        repeat' first | refine c_reg' rfl fun K E hK hE => ?_ | (refine r_opN fun κ η => ?_; simp only [go_sem, simprocAttr, Nat.le_refl]; (repeat refine ⟨by omega, ?_⟩); refine η _ ?_; clear η κ) | (refine r_nil (hK _ ?_); clear hE hK E K) | refine q_seq ?_ | refine q_blk ?_ | refine c_skip ?_ | refine q_lpN ?_
        refine ⟨ins.length - (k + 1), by omega, k + 1, rfl, by omega, hgo (by rw [c9]; rfl), _, _, nf_of rfl ⟨rfl, rfl, rfl, trivial⟩ trivial⟩
      | false =>
        repeat' first | refine c_seq ?_ | refine c_block ?_ | refine c_reg' rfl fun K E hK hE => ?_ | ((first | refine r_opN fun κ η => ?_ | refine r_opG rfl fun κ η => ?_); simp only [go_sem, simprocAttr, Nat.le_refl, hv, mk_get, hc, Int.toNat_natCast, h9, h8]; (repeat refine ⟨by omega, ?_⟩); refine η _ ?_; clear η κ) | (refine r_nil (hK _ ?_); clear hE hK E K) | refine q_seq ?_ | refine c_skip ?_
        refine c_cond _ rfl (fun hq => ?_) (fun hq => (by cases hq))
        repeat' first | refine c_seq ?_ | refine c_reg' rfl fun K E hK hE => ?_ | (refine r_opN fun κ η => ?_; simp only [go_sem, simprocAttr, Nat.le_refl]; refine η _ ?_; clear η κ) | (refine r_nil (hK _ ?_); clear hE hK E K) | refine q_seq ?_ | refine c_ret ?_ | refine q_seqR ?_ | refine q_blkR ?_ | refine q_lpR ?_ | (refine q_ret ?_; refine q_r1 ?_; simp only [go_sem, simprocAttr, Nat.le_refl])
        rw [hbad (by rw [c9]; rfl)]
    have h9 : ((c.toNat : Int) = 49) = False := by rw [c49]; exact eq_false c9
    by_cases c8 : c = 48
    · have h8 : ((c.toNat : Int) = 48) = True := by rw [c48]; exact eq_true c8
      cases v with
      | true =>
        repeat' first | refine c_seq ?_ | refine c_block ?_ | refine c_reg' rfl fun K E hK hE => ?_ | ((first | refine r_opN fun κ η => ?_ | refine r_opG rfl fun κ η => ?_); simp only [go_sem, simprocAttr, Nat.le_refl, hv, mk_get, hc, Int.toNat_natCast, h9, h8]; (repeat refine ⟨by omega, ?_⟩); refine η _ ?_; clear η κ) | (refine r_nil (hK _ ?_); clear hE hK E K) | refine q_seq ?_ | refine c_skip ?_
        refine c_cond _ rfl (fun hq => ?_) (fun hq => (by cases hq))
        repeat' first | refine c_seq ?_ | refine c_reg' rfl fun K E hK hE => ?_ | (refine r_opN fun κ η => ?_; simp only [go_sem, simprocAttr, Nat.le_refl]; refine η _ ?_; clear η κ) | (refine r_nil (hK _ ?_); clear hE hK E K) | refine q_seq ?_ | refine c_ret ?_ | refine q_seqR ?_ | refine q_blkR ?_ | refine q_lpR ?_ | (refine q_ret ?_; refine q_r1 ?_; simp only [go_sem, simprocAttr, Nat.le_refl])
        rw [hbad (by rw [c8]; rfl)]
      | false =>
        repeat' first | refine c_seq ?_ | refine c_block ?_ | refine c_reg' rfl fun K E hK hE => ?_ | ((first | refine r_opN fun κ η => ?_ | refine r_opG rfl fun κ η => ?_); simp only [go_sem, simprocAttr, Nat.le_refl, hv, mk_get, hc, Int.toNat_natCast, h9, h8]; (repeat refine ⟨by omega, ?_⟩); refine η _ ?_; clear η κ) | (refine r_nil (hK _ ?_); clear hE hK E K) | refine q_seq ?_ | refine c_skip ?_
        refine c_cond _ rfl (fun hq => (by cases hq)) (fun hq => ?_)
        repeat' first | refine c_reg' rfl fun K E hK hE => ?_ | (refine r_opN fun κ η => ?_; simp only [go_sem, simprocAttr, Nat.le_refl]; (repeat refine ⟨by omega, ?_⟩); refine η _ ?_; clear η κ) | (refine r_nil (hK _ ?_); clear hE hK E K) | refine q_seq ?_ | refine q_blk ?_ | refine c_skip ?_ | refine q_lpN ?_
        refine ⟨ins.length - (k + 1), by omega, k + 1, rfl, by omega, hgo (by rw [c8]; rfl), _, _, nf_of rfl ⟨rfl, rfl, rfl, trivial⟩ trivial⟩
    · have h8 : ((c.toNat : Int) = 48) = False := by rw [c48]; exact eq_false c8
      repeat' first | refine c_seq ?_ | refine c_block ?_ | refine c_reg' rfl fun K E hK hE => ?_ | ((first | refine r_opN fun κ η => ?_ | refine r_opG rfl fun κ η => ?_); simp only [go_sem, simprocAttr, Nat.le_refl, hv, mk_get, hc, Int.toNat_natCast, h9, h8]; (repeat refine ⟨by omega, ?_⟩); refine η _ ?_; clear η κ) | (refine r_nil (hK _ ?_); clear hE hK E K) | refine q_seq ?_ | refine c_skip ?_
      refine c_cond _ rfl (fun hq => (by cases hq)) (fun hq => ?_)
      repeat' first | refine c_reg' rfl fun K E hK hE => ?_ | (refine r_opN fun κ η => ?_; simp only [go_sem, simprocAttr, Nat.le_refl]; (repeat refine ⟨by omega, ?_⟩); refine η _ ?_; clear η κ) | (refine r_nil (hK _ ?_); clear hE hK E K) | refine q_seq ?_ | refine q_blk ?_ | refine c_skip ?_ | refine q_lpN ?_
      refine ⟨ins.length - (k + 1), by omega, k + 1, rfl, by omega, hgo (by simp [fit1, c8, c9]), _, _, nf_of rfl ⟨rfl, rfl, rfl, trivial⟩ trivial⟩
  · simp only [decide_eq_false_iff_not] at hq
    have hb : fitB r ins = true := by
      unfold fitB
      rw [List.all_eq_true]
      intro y hy
      obtain ⟨j, hj⟩ := List.getElem?_of_mem hy
      have := (List.getElem?_eq_some_iff.1 hj).1
      exact hno j y (by omega) hj
    repeat' first | refine c_seq ?_ | refine c_reg' rfl fun K E hK hE => ?_ | (refine r_opN fun κ η => ?_; simp only [go_sem, simprocAttr, Nat.le_refl]; refine η _ ?_; clear η κ) | (refine r_nil (hK _ ?_); clear hE hK E K) | refine q_seq ?_ | refine c_exit ?_ | refine c_ret ?_ | refine q_seqE ?_ | refine q_blkHit ?_ | refine q_lpE ?_ | (refine q_ret ?_; refine q_r1 ?_; simp only [go_sem, simprocAttr, Nat.le_refl])
    rw [hb]
end Go.Proofs.YtbhoeanfnbkenaaDoor
