import Derived.Test.YtbhoeanfnbkenaaDoorR7
namespace Go.Proofs.YtbhoeanfnbkenaaDoor
open Go.RowKit
set_option maxRecDepth 100000
set_option linter.unusedSimpArgs false
variable (Hy : World → Prop)
attribute [local irreducible] runM runD cwp seqQ blkQ lpQ retQ asQ bdQ bdY retP endR preD retD
def allR (c : UInt8) (n : Nat) : Row := List.replicate n c
theorem allR_succ (c : UInt8) (n : Nat) : mk (allR c (n + 1)) = mk (allR c n) ++ mk [c] := by rw [mk_add]; unfold allR; rw [List.replicate_succ']
theorem all6_ct (c : UInt8) (n : Nat) (hn : n ≤ 1000) : Ct Tryd.prog Hy 106 [.s (mk [c]), .i .i64 n] [.s (mk (allR c n))] := by
  refine ct_of (cls := _root_.id) tt_ok follows_ Tryd.func106 rfl (by decide) (Nat.le_of_ble_eq_true rfl) ?_
  rw [show Tryd.f106.ntmps = 16 from rfl, s0_nf]
  simp only [List.zipIdx_cons, List.zipIdx_nil, List.map_cons, List.map_nil, Nat.reduceAdd]
  repeat' first | refine c_seq ?_ | refine c_block ?_ | refine c_reg' rfl fun K E hK hE => ?_ | (refine r_opN fun κ η => ?_; simp only [go_sem, simprocAttr, Nat.le_refl]; refine η _ ?_; clear η κ) | (refine r_nil (hK _ ?_); clear hE hK E K) | refine q_seq ?_
  refine c_loop (fun m s' => ∃ k : Nat, m = n - k ∧ k ≤ n ∧ (True) ∧ ∃ F G0, s' = nf 16 F G0 [(0, .t (.s (mk [c]))), (1, .t (.i .i64 n)), (5, .t (.s (mk (allR c k)))), (6, .t (.i .i64 k))] []) (n) ?_ ?_
  · exact ⟨0, by omega, by omega, trivial, _, _, nf_of rfl ⟨rfl, rfl, rfl, rfl, trivial⟩ trivial⟩
  rintro m s' ⟨k, rfl, hk, hno, F, G0, rfl⟩
  by_cases c1 : k < n
  · have hs := allR_succ c k
    have h1 : (mk (allR c k)).size + (mk [c]).size ≤ 2000 := by rw [mk_size, mk_size, allR, List.length_replicate]; show k + 1 ≤ 2000; omega
    have c1' : ((k : Int) < n) = True := eq_true (by omega)
    generalize mk (allR c k) = s0 at *
    repeat' first | refine c_seq ?_ | refine c_block ?_ | refine c_reg' rfl fun K E hK hE => ?_ | (refine r_opN fun κ η => ?_; simp only [go_sem, simprocAttr, Nat.le_refl, c1', ← hs]; (repeat refine ⟨by omega, ?_⟩); refine η _ ?_; clear η κ) | (refine r_nil (hK _ ?_); clear hE hK E K) | refine q_seq ?_ | refine c_cond true rfl (fun _ => ?_) (fun h => (by cases h)) | refine q_blk ?_ | refine c_skip ?_ | refine q_lpN ?_
    refine ⟨n - (k + 1), by omega, k + 1, rfl, by omega, trivial, _, _, nf_of rfl ⟨rfl, rfl, rfl, rfl, trivial⟩ trivial⟩
  · obtain rfl : k = n := by omega
    repeat' first | refine c_seq ?_ | refine c_reg' rfl fun K E hK hE => ?_ | (refine r_opN fun κ η => ?_; simp only [go_sem, simprocAttr, Nat.le_refl, Int.lt_irrefl]; refine η _ ?_; clear η κ) | (refine r_nil (hK _ ?_); clear hE hK E K) | refine q_seq ?_ | refine c_cond false rfl (fun h => (by cases h)) fun _ => ?_ | refine c_exit ?_ | refine c_ret ?_ | refine q_seqE ?_ | refine q_blkHit ?_ | refine q_lpE ?_ | (refine q_ret ?_; refine q_r1 ?_; simp only [go_sem, simprocAttr, Nat.le_refl, Int.lt_irrefl])
def bitN (k i : Nat) : Nat := k / 2 ^ i % 2
def sgB (k i : Nat) : UInt8 := if bitN k i = 1 then 49 else 48
def preB (k n j : Nat) : Row := (List.range j).map fun t => sgB k (n - 1 - t)
def onesB (k n : Nat) : Nat → Nat
  | 0 => 0
  | j + 1 => onesB k n j + bitN k (n - 1 - j)
def oddR (n want m : Nat) : List Row := ((List.range m).filter fun k => decide (onesB k n n % 2 = want)).map fun k => preB k n n
theorem bitN_01 (k i : Nat) : bitN k i = 0 ∨ bitN k i = 1 := by unfold bitN; omega
theorem onesB_le (k n : Nat) : ∀ j, onesB k n j ≤ j
  | 0 => Nat.le_refl _
  | j + 1 => by
    have := onesB_le k n j
    have := bitN_01 k (n - 1 - j)
    unfold onesB
    omega
theorem preB_succ (k n j : Nat) : mk (preB k n (j + 1)) = mk (preB k n j) ++ mk [sgB k (n - 1 - j)] := by rw [mk_add]; unfold preB; rw [List.range_succ, List.map_append]; rfl
theorem preB_len (k n j : Nat) : (preB k n j).length = j := by simp [preB]
theorem oddR_succ (n want m : Nat) : rR (oddR n want (m + 1)) = rR (oddR n want m) ++ (if onesB m n n % 2 = want then [[.s (mk (preB m n n))]] else []) := by
  unfold oddR rR
  rw [List.range_succ, List.filter_append, List.map_append, List.map_append]
  by_cases c : onesB m n n % 2 = want
  · rw [if_pos c, List.filter_cons, if_pos (by rw [decide_eq_true c])]; rfl
  · rw [if_neg c, List.filter_cons, if_neg (by rw [decide_eq_false c]; decide)]; rfl
theorem oddR_len (n want m : Nat) : (rR (oddR n want m)).length ≤ m := by
  unfold oddR rR
  rw [List.length_map, List.length_map]
  exact Nat.le_trans (List.length_filter_le _ _) (by rw [List.length_range]; exact Nat.le_refl _)
set_option maxHeartbeats 4000000 in
theorem odd6_ct (n want : Nat) (hn : n ≤ 8) : Ct Tryd.prog Hy 107 [.i .i64 n, .i .i64 want] [.sl (rR (oddR n want (2 ^ n)))] := by
  have hM : 2 ^ n ≤ 2 ^ 8 := Nat.pow_le_pow_right (by omega) hn
  have hpow : ((2 : Int) ^ n) = ((2 ^ n : Nat) : Int) := by simp
  generalize 2 ^ n = M at *
  refine ct_of (cls := _root_.id) tt_ok follows_ Tryd.func107 rfl (by decide) (Nat.le_of_ble_eq_true rfl) ?_
  rw [show Tryd.f107.ntmps = 44 from rfl, s0_nf]
  simp only [List.zipIdx_cons, List.zipIdx_nil, List.map_cons, List.map_nil, Nat.reduceAdd]
  repeat' first | refine c_seq ?_ | refine c_block ?_ | refine c_reg' rfl fun K E hK hE => ?_ | (refine r_opN fun κ η => ?_; simp only [go_sem, simprocAttr, Nat.le_refl]; refine η _ ?_; clear η κ) | (refine r_nil (hK _ ?_); clear hE hK E K) | refine q_seq ?_
  refine c_loop (fun m s' => ∃ k : Nat, m = M - k ∧ k ≤ M ∧ ∃ F G0 yy, s' = nf 44 F G0 [(0, .t (.i .i64 n)), (1, .t (.i .i64 want)), (5, yy), (6, .t (.i .i64 k))] [] ∧ Acc G0 42 9 1 (rR (oddR n want k)) yy) M ?_ ?_
  · exact ⟨0, by omega, by omega, _, _, _, nf_of rfl ⟨rfl, rfl, rfl, rfl, trivial⟩ trivial, .inl ⟨rfl, rfl⟩⟩
  rintro m s' ⟨k, rfl, hk, F, G0, yy, rfl, hy⟩
  by_cases hd : k < M
  · have hd' : ((k : Int) < M) = True := eq_true (by omega)
    have hst := oddR_succ n want k
    have hlen : (rR (oddR n want k)).length ≤ 1000 := by have := oddR_len n want k; omega
    generalize rR (oddR n want k) = rw0 at hst hlen hy
    have ho8 := onesB_le k n n
    repeat' first | refine c_seq ?_ | refine c_block ?_ | refine c_reg' rfl fun K E hK hE => ?_ | (refine r_opN fun κ η => ?_; simp only [go_sem, simprocAttr, Nat.le_refl, Int.toNat_natCast, Int.one_mul, hpow, hd']; (repeat refine ⟨by omega, ?_⟩); refine η _ ?_; clear η κ) | (refine r_nil (hK _ ?_); clear hE hK E K) | refine q_seq ?_ | refine c_cond true rfl (fun _ => ?_) (fun h => (by cases h)) | refine c_skip ?_
    refine c_loop (fun m s' => ∃ j : Nat, m = n - j ∧ j ≤ n ∧ ∃ F, s' = nf 44 F G0 [(0, .t (.i .i64 n)), (1, .t (.i .i64 want)), (5, yy), (6, .t (.i .i64 k)), (7, .t (.s (mk (preB k n j)))), (8, .t (.i .i64 (onesB k n j))), (9, .t (.i .i64 ((n : Int) - 1 - j)))] []) n ?_ ?_
    · exact ⟨0, by omega, by omega, _, nf_of rfl ⟨rfl, rfl, rfl, rfl, rfl, rfl, congrArg (fun z : Int => A.t (.i .i64 z)) (by omega), trivial⟩ trivial⟩
    rintro m s' ⟨j, rfl, hj, F, rfl⟩
    by_cases hj2 : j < n
    · have hcast : ((n : Int) - 1 - j) = ((n - 1 - j : Nat) : Int) := by omega
      have hd2 : ((0 : Int) ≤ ((n - 1 - j : Nat) : Int)) = True := eq_true (by omega)
      have hfd : ((k : Int).fdiv (2 ^ (n - 1 - j))) = ((k / 2 ^ (n - 1 - j) : Nat) : Int) := by
        rw [Int.fdiv_eq_ediv_of_nonneg _ (Int.pow_nonneg (by decide))]
        simp
      have hmd : (((k / 2 ^ (n - 1 - j) : Nat) : Int).tmod 2) = ((bitN k (n - 1 - j) : Nat) : Int) := rfl
      have hps := preB_succ k n j
      have hon : onesB k n (j + 1) = onesB k n j + bitN k (n - 1 - j) := rfl
      have h1 : (mk (preB k n j)).size ≤ 2000 := by rw [mk_size, preB_len]; omega
      have hol := onesB_le k n j
      rw [hcast]
      rcases bitN_01 k (n - 1 - j) with hb | hb
      · rw [show sgB k (n - 1 - j) = 48 from if_neg (by rw [hb]; decide)] at hps
        rw [hb] at hmd hon
        generalize mk (preB k n j) = s0 at *
        generalize k / 2 ^ (n - 1 - j) = kd at *
        repeat' first | refine c_seq ?_ | refine c_block ?_ | refine c_reg' rfl fun K E hK hE => ?_ | (refine r_opN fun κ η => ?_; simp only [go_sem, simprocAttr, Nat.le_refl, hd2, Int.toNat_natCast, hfd, hmd, Int.natCast_zero, show (⟨#[48]⟩ : ByteArray).size = 1 from rfl]; (repeat refine ⟨by omega, ?_⟩); refine η _ ?_; clear η κ) | (refine r_nil (hK _ ?_); clear hE hK E K) | refine q_seq ?_ | refine c_cond true rfl (fun _ => ?_) (fun h => (by cases h)) | refine c_cond false rfl (fun h => (by cases h)) fun _ => ?_ | refine q_blk ?_ | refine c_skip ?_ | refine q_lpN ?_
        exact ⟨n - (j + 1), by omega, j + 1, rfl, by omega, _, nf_of rfl ⟨rfl, rfl, rfl, rfl, by rw [hps]; rfl, by rw [hon]; rfl, congrArg (fun z : Int => A.t (.i .i64 z)) (by omega), trivial⟩ trivial⟩
      · rw [show sgB k (n - 1 - j) = 49 from if_pos hb] at hps
        rw [hb] at hmd hon
        generalize mk (preB k n j) = s0 at *
        generalize k / 2 ^ (n - 1 - j) = kd at *
        repeat' first | refine c_seq ?_ | refine c_block ?_ | refine c_reg' rfl fun K E hK hE => ?_ | (refine r_opN fun κ η => ?_; simp only [go_sem, simprocAttr, Nat.le_refl, hd2, Int.toNat_natCast, hfd, hmd, Int.natCast_one, show (⟨#[49]⟩ : ByteArray).size = 1 from rfl]; (repeat refine ⟨by omega, ?_⟩); refine η _ ?_; clear η κ) | (refine r_nil (hK _ ?_); clear hE hK E K) | refine q_seq ?_ | refine c_cond true rfl (fun _ => ?_) (fun h => (by cases h)) | refine q_blk ?_ | refine c_skip ?_ | refine q_lpN ?_
        exact ⟨n - (j + 1), by omega, j + 1, rfl, by omega, _, nf_of rfl ⟨rfl, rfl, rfl, rfl, by rw [hps]; rfl, by rw [hon]; rfl, congrArg (fun z : Int => A.t (.i .i64 z)) (by omega), trivial⟩ trivial⟩
    obtain rfl : j = n := by omega
    have hd2 : ((0 : Int) ≤ (j : Int) - 1 - j) = False := eq_false (by omega)
    have hmo : (((onesB k j j : Nat) : Int).tmod 2) = ((onesB k j j % 2 : Nat) : Int) := rfl
    by_cases cw : onesB k j j % 2 = want
    · rw [if_pos cw] at hst
      have cw' : (((onesB k j j % 2 : Nat) : Int) = want) = True := eq_true (by omega)
      rcases hy with ⟨y0, rfl⟩ | ⟨q', rfl, hr2⟩
      · rw [y0] at hst
        repeat' first | refine c_seq ?_ | refine c_reg' rfl fun K E hK hE => ?_ | (refine r_opN fun κ η => ?_; simp only [go_sem, simprocAttr, Nat.le_refl, hd2, hmo, cw']; (repeat refine ⟨by omega, ?_⟩); refine η _ ?_; clear η κ) | (refine r_nil (hK _ ?_); clear hE hK E K) | refine q_seq ?_ | refine c_cond true rfl (fun _ => ?_) (fun h => (by cases h)) | refine c_cond false rfl (fun h => (by cases h)) fun _ => ?_ | refine q_blk ?_ | refine c_exit ?_ | refine q_seqE ?_ | refine q_blkHit ?_ | refine q_lpE ?_ | refine q_lpN ?_
        exact ⟨M - (k + 1), by omega, k + 1, rfl, by omega, _, _, _, nf_of rfl ⟨rfl, rfl, rfl, rfl, trivial⟩ trivial, .inr ⟨_, rfl, by rw [hst]; rfl⟩⟩
      · repeat' first | refine c_seq ?_ | refine c_reg' rfl fun K E hK hE => ?_ | (refine r_opN fun κ η => ?_; simp only [go_sem, simprocAttr, Nat.le_refl, hd2, hmo, cw', hr2]; (repeat refine ⟨by omega, ?_⟩); refine η _ ?_; clear η κ) | (refine r_nil (hK _ ?_); clear hE hK E K) | refine q_seq ?_ | refine c_cond true rfl (fun _ => ?_) (fun h => (by cases h)) | refine c_cond false rfl (fun h => (by cases h)) fun _ => ?_ | refine q_blk ?_ | refine c_exit ?_ | refine q_seqE ?_ | refine q_blkHit ?_ | refine q_lpE ?_ | refine q_lpN ?_
        exact ⟨M - (k + 1), by omega, k + 1, rfl, by omega, _, _, _, nf_of rfl ⟨rfl, rfl, rfl, rfl, trivial⟩ trivial, .inr ⟨_, rfl, by rw [hst]; rfl⟩⟩
    · rw [if_neg cw, List.append_nil] at hst
      have cw' : (((onesB k j j % 2 : Nat) : Int) = want) = False := eq_false (by omega)
      repeat' first | refine c_seq ?_ | refine c_reg' rfl fun K E hK hE => ?_ | (refine r_opN fun κ η => ?_; simp only [go_sem, simprocAttr, Nat.le_refl, hd2, hmo, cw']; (repeat refine ⟨by omega, ?_⟩); refine η _ ?_; clear η κ) | (refine r_nil (hK _ ?_); clear hE hK E K) | refine q_seq ?_ | refine c_cond false rfl (fun h => (by cases h)) fun _ => ?_ | refine q_blk ?_ | refine c_skip ?_ | refine c_exit ?_ | refine q_seqE ?_ | refine q_blkHit ?_ | refine q_lpE ?_ | refine q_lpN ?_
      exact ⟨M - (k + 1), by omega, k + 1, rfl, by omega, _, _, _, nf_of rfl ⟨rfl, rfl, rfl, rfl, trivial⟩ trivial, by rw [hst]; exact hy⟩
  obtain rfl : k = M := by omega
  rcases hy with ⟨y0, rfl⟩ | ⟨q', rfl, hr2⟩
  · rw [y0]
    repeat' first | refine c_seq ?_ | refine c_reg' rfl fun K E hK hE => ?_ | (refine r_opN fun κ η => ?_; simp only [go_sem, simprocAttr, Nat.le_refl, Int.toNat_natCast, Int.one_mul, hpow, Int.lt_irrefl]; (repeat refine ⟨by omega, ?_⟩); refine η _ ?_; clear η κ) | (refine r_nil (hK _ ?_); clear hE hK E K) | refine q_seq ?_ | refine c_cond false rfl (fun h => (by cases h)) fun _ => ?_ | refine c_exit ?_ | refine c_ret ?_ | refine q_seqE ?_ | refine q_blkHit ?_ | refine q_lpE ?_ | (refine q_ret ?_; refine q_r1 ?_; simp only [go_sem, simprocAttr, Nat.le_refl, Int.toNat_natCast, Int.one_mul, hpow, Int.lt_irrefl])
  · repeat' first | refine c_seq ?_ | refine c_reg' rfl fun K E hK hE => ?_ | (refine r_opN fun κ η => ?_; simp only [go_sem, simprocAttr, Nat.le_refl, Int.toNat_natCast, Int.one_mul, hpow, Int.lt_irrefl, hr2]; (repeat refine ⟨by omega, ?_⟩); refine η _ ?_; clear η κ) | (refine r_nil (hK _ ?_); clear hE hK E K) | refine q_seq ?_ | refine c_cond false rfl (fun h => (by cases h)) fun _ => ?_ | refine c_exit ?_ | refine c_ret ?_ | refine q_seqE ?_ | refine q_blkHit ?_ | refine q_lpE ?_ | (refine q_ret ?_; refine q_r1 ?_; simp only [go_sem, simprocAttr, Nat.le_refl, Int.toNat_natCast, Int.one_mul, hpow, Int.lt_irrefl, hr2])
end Go.Proofs.YtbhoeanfnbkenaaDoor
