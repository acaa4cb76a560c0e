/- The three readers; Blif, Bench, Verilog. -/
import Derived.Test.YtfljnhmpelpdaaaDoorTkAll2
import Derived.Test.YtfljnhmpelpdaaaDoorTkKinds2
import Derived.Laws.EntriesVeiled
import Derived.Laws.Rows
namespace Go.Proofs.YtfljnhmpelpdaaaDoor.Tok
set_option maxRecDepth 100000
open Go.RowKit

set_option maxRecDepth 100000 in
set_option maxHeartbeats 1000000 in
theorem newB_any (w : World) : Calls Tryd.prog 35 #[] w fun e w' => ∃ k, e = .returned (.agg #[k]) ∧ Kd w' k wB ∧ Below w.heap.size w w' := by
  have K0 := Lib.hid (Blk.new w #[.nilFunc] 66)
  have B0 := Lib.hid ((Below.refl _ w).alloc (Nat.le_refl _) (.cells #[.nilFunc] 66))
  have L0 := Lib.hid (show w.heap.size + 1 ≤ (w.alloc (.cells #[.nilFunc] 66)).heap.size by simp)
  go_enter Tryd.func35, Tryd.ntmps35
  go_wp2_with fail
  refine (l_oneOf (w.heap.size + 1) _ _ L0.out).mono ?_
  rintro e w1 ⟨v1, rfl, hk1, b1⟩
  have L1 := Lib.hid (Nat.le_trans L0.out b1.size)
  have K1 := Lib.hid (K0.out.below b1 K0.out.lt)
  have B1 := Lib.hid (B0.out.trans (b1.mono B0.out.size))
  have H1_1 := Lib.hid hk1
  clear b1 hk1
  go_wp2_with fail
  refine (l_not (w.heap.size + 1) _ _ _ L1.out H1_1.out).mono ?_
  rintro e w2 ⟨v2, rfl, hk2, b2⟩
  have L2 := Lib.hid (Nat.le_trans L1.out b2.size)
  have K2 := Lib.hid (K1.out.below b2 K1.out.lt)
  have B2 := Lib.hid (B1.out.trans (b2.mono B1.out.size))
  have H2_2 := Lib.hid hk2
  have H1_2 := Lib.hid (H1_1.out.below b2)
  clear b2 hk2
  obtain ⟨g2, lb2, rfl⟩ := H2_2.out.func
  have k0 := K2.out
  have c0 := k0.cell 0
  have f0 := k0.frozen 0
  simp at c0
  have k1 := Lib.hid (k0.set 0 (.func (.func g2) #[] lb2))
  clear k0
  go_wp2
  refine bodyPost_ret (results_cell_row rfl _ _ w.heap.size 66 #[.func (.func g2) #[] lb2] (0, 0) _ rfl k1.out Tryd.underlying66 rfl (by kernel_rfl)) rfl ?_
  exact ⟨_, rfl, (H2_2.out.set ⟨w.heap.size, 0, none⟩ (Nat.lt_succ_self _) _).kd, B2.out.setCell (p := ⟨w.heap.size, 0, none⟩) (Nat.le_refl _) _⟩

set_option maxRecDepth 100000 in
set_option maxHeartbeats 1000000 in
theorem newN_any (w : World) : Calls Tryd.prog 37 #[] w fun e w' => ∃ k1 k2 k3, e = .returned (.agg #[k1, k2, k3]) ∧ Kd w' k1 kBl ∧ Kd w' k2 kM ∧ Kd w' k3 wN ∧ Below w.heap.size w w' := by
  have K0 := Lib.hid (Blk.new w #[.nilFunc, .nilFunc, .nilFunc] 70)
  have B0 := Lib.hid ((Below.refl _ w).alloc (Nat.le_refl _) (.cells #[.nilFunc, .nilFunc, .nilFunc] 70))
  have L0 := Lib.hid (show w.heap.size + 1 ≤ (w.alloc (.cells #[.nilFunc, .nilFunc, .nilFunc] 70)).heap.size by simp)
  go_enter Tryd.func37, Tryd.ntmps37
  go_wp2_with fail
  refine (l_oneOf (w.heap.size + 1) _ _ L0.out).mono ?_
  rintro e w1 ⟨v1, rfl, hk1, b1⟩
  have L1 := Lib.hid (Nat.le_trans L0.out b1.size)
  have K1 := Lib.hid (K0.out.below b1 K0.out.lt)
  have B1 := Lib.hid (B0.out.trans (b1.mono B0.out.size))
  have H1_1 := Lib.hid hk1
  clear b1 hk1
  go_wp2_with fail
  refine (l_oneOf (w.heap.size + 1) _ _ L1.out).mono ?_
  rintro e w2 ⟨v2, rfl, hk2, b2⟩
  have L2 := Lib.hid (Nat.le_trans L1.out b2.size)
  have K2 := Lib.hid (K1.out.below b2 K1.out.lt)
  have B2 := Lib.hid (B1.out.trans (b2.mono B1.out.size))
  have H2_2 := Lib.hid hk2
  have H1_2 := Lib.hid (H1_1.out.below b2)
  clear b2 hk2
  go_wp2_with fail
  refine (l_oneOf (w.heap.size + 1) _ _ L2.out).mono ?_
  rintro e w3 ⟨v3, rfl, hk3, b3⟩
  have L3 := Lib.hid (Nat.le_trans L2.out b3.size)
  have K3 := Lib.hid (K2.out.below b3 K2.out.lt)
  have B3 := Lib.hid (B2.out.trans (b3.mono B2.out.size))
  have H3_3 := Lib.hid hk3
  have H1_3 := Lib.hid (H1_2.out.below b3)
  have H2_3 := Lib.hid (H2_2.out.below b3)
  clear b3 hk3
  go_wp2_with fail
  refine (l_either (w.heap.size + 1) _ _ _ _ _ L3.out H1_3.out H3_3.out).mono ?_
  rintro e w4 ⟨v4, rfl, hk4, b4⟩
  have L4 := Lib.hid (Nat.le_trans L3.out b4.size)
  have K4 := Lib.hid (K3.out.below b4 K3.out.lt)
  have B4 := Lib.hid (B3.out.trans (b4.mono B3.out.size))
  have H4_4 := Lib.hid hk4
  have H1_4 := Lib.hid (H1_3.out.below b4)
  have H2_4 := Lib.hid (H2_3.out.below b4)
  have H3_4 := Lib.hid (H3_3.out.below b4)
  clear b4 hk4
  go_wp2_with fail
  refine (l_not (w.heap.size + 1) _ _ _ L4.out H4_4.out).mono ?_
  rintro e w5 ⟨v5, rfl, hk5, b5⟩
  have L5 := Lib.hid (Nat.le_trans L4.out b5.size)
  have K5 := Lib.hid (K4.out.below b5 K4.out.lt)
  have B5 := Lib.hid (B4.out.trans (b5.mono B4.out.size))
  have H5_5 := Lib.hid hk5
  have H1_5 := Lib.hid (H1_4.out.below b5)
  have H2_5 := Lib.hid (H2_4.out.below b5)
  have H3_5 := Lib.hid (H3_4.out.below b5)
  have H4_5 := Lib.hid (H4_4.out.below b5)
  clear b5 hk5
  go_wp2_with fail
  refine (l_both (w.heap.size + 1) _ _ _ _ _ L5.out (l_seen _ _) H5_5.out).mono ?_
  rintro e w6 ⟨v6, rfl, hk6, b6⟩
  have L6 := Lib.hid (Nat.le_trans L5.out b6.size)
  have K6 := Lib.hid (K5.out.below b6 K5.out.lt)
  have B6 := Lib.hid (B5.out.trans (b6.mono B5.out.size))
  have H6_6 := Lib.hid hk6
  have H1_6 := Lib.hid (H1_5.out.below b6)
  have H2_6 := Lib.hid (H2_5.out.below b6)
  have H3_6 := Lib.hid (H3_5.out.below b6)
  have H4_6 := Lib.hid (H4_5.out.below b6)
  have H5_6 := Lib.hid (H5_5.out.below b6)
  clear b6 hk6
  obtain ⟨ga, lba, rfl⟩ := H2_6.out.func
  obtain ⟨gb, lbb, rfl⟩ := H1_6.out.func
  obtain ⟨gc, lbc, rfl⟩ := H6_6.out.func
  have k0 := K6.out
  have c0 := k0.cell 0
  have c1 := k0.cell 1
  have c2 := k0.cell 2
  have f0 := k0.frozen 0
  have f1 := k0.frozen 1
  have f2 := k0.frozen 2
  simp at c0 c1 c2
  have k1 := Lib.hid (((k0.set 0 (.func (.func ga) #[] lba)).set 1 (.func (.func gb) #[] lbb)).set 2 (.func (.func gc) #[] lbc))
  clear k0
  go_wp2
  refine bodyPost_ret (results_cell_row rfl _ _ w.heap.size 70 #[.func (.func ga) #[] lba, .func (.func gb) #[] lbb, .func (.func gc) #[] lbc] (0, 0) _ rfl k1.out Tryd.underlying70 rfl (by kernel_rfl)) rfl ?_
  exact ⟨_, _, _, rfl, (((H2_6.out.set ⟨w.heap.size, 0, none⟩ (Nat.lt_succ_self _) _).set ⟨w.heap.size, 1, none⟩ (Nat.lt_succ_self _) _).set ⟨w.heap.size, 2, none⟩ (Nat.lt_succ_self _) _).kd, (((H1_6.out.set ⟨w.heap.size, 0, none⟩ (Nat.lt_succ_self _) _).set ⟨w.heap.size, 1, none⟩ (Nat.lt_succ_self _) _).set ⟨w.heap.size, 2, none⟩ (Nat.lt_succ_self _) _).kd, (((H6_6.out.set ⟨w.heap.size, 0, none⟩ (Nat.lt_succ_self _) _).set ⟨w.heap.size, 1, none⟩ (Nat.lt_succ_self _) _).set ⟨w.heap.size, 2, none⟩ (Nat.lt_succ_self _) _).kd,
    ((B6.out.setCell (p := ⟨w.heap.size, 0, none⟩) (Nat.le_refl _) _).setCell (p := ⟨w.heap.size, 1, none⟩) (Nat.le_refl _) _).setCell (p := ⟨w.heap.size, 2, none⟩) (Nat.le_refl _) _⟩

set_option maxRecDepth 100000 in
set_option maxHeartbeats 1000000 in
theorem newV_any (w : World) : Calls Tryd.prog 38 #[] w fun e w' => ∃ k1 k2 k3, e = .returned (.agg #[k1, k2, k3]) ∧ Kd w' k1 kBl ∧ Kd w' k2 mV ∧ Kd w' k3 wV ∧ Below w.heap.size w w' := by
  have K0 := Lib.hid (Blk.new w #[.nilFunc, .nilFunc, .nilFunc] 72)
  have B0 := Lib.hid ((Below.refl _ w).alloc (Nat.le_refl _) (.cells #[.nilFunc, .nilFunc, .nilFunc] 72))
  have L0 := Lib.hid (show w.heap.size + 1 ≤ (w.alloc (.cells #[.nilFunc, .nilFunc, .nilFunc] 72)).heap.size by simp)
  go_enter Tryd.func38, Tryd.ntmps38
  go_wp2_with fail
  refine (l_between (w.heap.size + 1) _ _ _ L0.out).mono ?_
  rintro e w1 ⟨v1, rfl, hk1, b1⟩
  have L1 := Lib.hid (Nat.le_trans L0.out b1.size)
  have K1 := Lib.hid (K0.out.below b1 K0.out.lt)
  have B1 := Lib.hid (B0.out.trans (b1.mono B0.out.size))
  have H1_1 := Lib.hid hk1
  clear b1 hk1
  go_wp2_with fail
  refine (l_between (w.heap.size + 1) _ _ _ L1.out).mono ?_
  rintro e w2 ⟨v2, rfl, hk2, b2⟩
  have L2 := Lib.hid (Nat.le_trans L1.out b2.size)
  have K2 := Lib.hid (K1.out.below b2 K1.out.lt)
  have B2 := Lib.hid (B1.out.trans (b2.mono B1.out.size))
  have H2_2 := Lib.hid hk2
  have H1_2 := Lib.hid (H1_1.out.below b2)
  clear b2 hk2
  go_wp2_with fail
  refine (l_either (w.heap.size + 1) _ _ _ _ _ L2.out H1_2.out H2_2.out).mono ?_
  rintro e w3 ⟨v3, rfl, hk3, b3⟩
  have L3 := Lib.hid (Nat.le_trans L2.out b3.size)
  have K3 := Lib.hid (K2.out.below b3 K2.out.lt)
  have B3 := Lib.hid (B2.out.trans (b3.mono B2.out.size))
  have H3_3 := Lib.hid hk3
  have H1_3 := Lib.hid (H1_2.out.below b3)
  have H2_3 := Lib.hid (H2_2.out.below b3)
  clear b3 hk3
  go_wp2_with fail
  refine (l_oneOf (w.heap.size + 1) _ _ L3.out).mono ?_
  rintro e w4 ⟨v4, rfl, hk4, b4⟩
  have L4 := Lib.hid (Nat.le_trans L3.out b4.size)
  have K4 := Lib.hid (K3.out.below b4 K3.out.lt)
  have B4 := Lib.hid (B3.out.trans (b4.mono B3.out.size))
  have H4_4 := Lib.hid hk4
  have H1_4 := Lib.hid (H1_3.out.below b4)
  have H2_4 := Lib.hid (H2_3.out.below b4)
  have H3_4 := Lib.hid (H3_3.out.below b4)
  clear b4 hk4
  go_wp2_with fail
  refine (l_oneOf (w.heap.size + 1) _ _ L4.out).mono ?_
  rintro e w5 ⟨v5, rfl, hk5, b5⟩
  have L5 := Lib.hid (Nat.le_trans L4.out b5.size)
  have K5 := Lib.hid (K4.out.below b5 K4.out.lt)
  have B5 := Lib.hid (B4.out.trans (b5.mono B4.out.size))
  have H5_5 := Lib.hid hk5
  have H1_5 := Lib.hid (H1_4.out.below b5)
  have H2_5 := Lib.hid (H2_4.out.below b5)
  have H3_5 := Lib.hid (H3_4.out.below b5)
  have H4_5 := Lib.hid (H4_4.out.below b5)
  clear b5 hk5
  go_wp2_with fail
  refine (l_between (w.heap.size + 1) _ _ _ L5.out).mono ?_
  rintro e w6 ⟨v6, rfl, hk6, b6⟩
  have L6 := Lib.hid (Nat.le_trans L5.out b6.size)
  have K6 := Lib.hid (K5.out.below b6 K5.out.lt)
  have B6 := Lib.hid (B5.out.trans (b6.mono B5.out.size))
  have H6_6 := Lib.hid hk6
  have H1_6 := Lib.hid (H1_5.out.below b6)
  have H2_6 := Lib.hid (H2_5.out.below b6)
  have H3_6 := Lib.hid (H3_5.out.below b6)
  have H4_6 := Lib.hid (H4_5.out.below b6)
  have H5_6 := Lib.hid (H5_5.out.below b6)
  clear b6 hk6
  go_wp2_with fail
  refine (l_either (w.heap.size + 1) _ _ _ _ _ L6.out H3_6.out H6_6.out).mono ?_
  rintro e w7 ⟨v7, rfl, hk7, b7⟩
  have L7 := Lib.hid (Nat.le_trans L6.out b7.size)
  have K7 := Lib.hid (K6.out.below b7 K6.out.lt)
  have B7 := Lib.hid (B6.out.trans (b7.mono B6.out.size))
  have H7_7 := Lib.hid hk7
  have H1_7 := Lib.hid (H1_6.out.below b7)
  have H2_7 := Lib.hid (H2_6.out.below b7)
  have H3_7 := Lib.hid (H3_6.out.below b7)
  have H4_7 := Lib.hid (H4_6.out.below b7)
  have H5_7 := Lib.hid (H5_6.out.below b7)
  have H6_7 := Lib.hid (H6_6.out.below b7)
  clear b7 hk7
  go_wp2_with fail
  refine (l_oneOf (w.heap.size + 1) _ _ L7.out).mono ?_
  rintro e w8 ⟨v8, rfl, hk8, b8⟩
  have L8 := Lib.hid (Nat.le_trans L7.out b8.size)
  have K8 := Lib.hid (K7.out.below b8 K7.out.lt)
  have B8 := Lib.hid (B7.out.trans (b8.mono B7.out.size))
  have H8_8 := Lib.hid hk8
  have H1_8 := Lib.hid (H1_7.out.below b8)
  have H2_8 := Lib.hid (H2_7.out.below b8)
  have H3_8 := Lib.hid (H3_7.out.below b8)
  have H4_8 := Lib.hid (H4_7.out.below b8)
  have H5_8 := Lib.hid (H5_7.out.below b8)
  have H6_8 := Lib.hid (H6_7.out.below b8)
  have H7_8 := Lib.hid (H7_7.out.below b8)
  clear b8 hk8
  go_wp2_with fail
  refine (l_either (w.heap.size + 1) _ _ _ _ _ L8.out H7_8.out H8_8.out).mono ?_
  rintro e w9 ⟨v9, rfl, hk9, b9⟩
  have L9 := Lib.hid (Nat.le_trans L8.out b9.size)
  have K9 := Lib.hid (K8.out.below b9 K8.out.lt)
  have B9 := Lib.hid (B8.out.trans (b9.mono B8.out.size))
  have H9_9 := Lib.hid hk9
  have H1_9 := Lib.hid (H1_8.out.below b9)
  have H2_9 := Lib.hid (H2_8.out.below b9)
  have H3_9 := Lib.hid (H3_8.out.below b9)
  have H4_9 := Lib.hid (H4_8.out.below b9)
  have H5_9 := Lib.hid (H5_8.out.below b9)
  have H6_9 := Lib.hid (H6_8.out.below b9)
  have H7_9 := Lib.hid (H7_8.out.below b9)
  have H8_9 := Lib.hid (H8_8.out.below b9)
  clear b9 hk9
  obtain ⟨ga, lba, rfl⟩ := H4_9.out.func
  obtain ⟨gb, lbb, rfl⟩ := H5_9.out.func
  obtain ⟨gc, lbc, rfl⟩ := H9_9.out.func
  have k0 := K9.out
  have c0 := k0.cell 0
  have c1 := k0.cell 1
  have c2 := k0.cell 2
  have f0 := k0.frozen 0
  have f1 := k0.frozen 1
  have f2 := k0.frozen 2
  simp at c0 c1 c2
  have k1 := Lib.hid (((k0.set 0 (.func (.func ga) #[] lba)).set 1 (.func (.func gb) #[] lbb)).set 2 (.func (.func gc) #[] lbc))
  clear k0
  go_wp2
  refine bodyPost_ret (results_cell_row rfl _ _ w.heap.size 72 #[.func (.func ga) #[] lba, .func (.func gb) #[] lbb, .func (.func gc) #[] lbc] (0, 0) _ rfl k1.out Tryd.underlying72 rfl (by kernel_rfl)) rfl ?_
  exact ⟨_, _, _, rfl, (((H4_9.out.set ⟨w.heap.size, 0, none⟩ (Nat.lt_succ_self _) _).set ⟨w.heap.size, 1, none⟩ (Nat.lt_succ_self _) _).set ⟨w.heap.size, 2, none⟩ (Nat.lt_succ_self _) _).kd, (((H5_9.out.set ⟨w.heap.size, 0, none⟩ (Nat.lt_succ_self _) _).set ⟨w.heap.size, 1, none⟩ (Nat.lt_succ_self _) _).set ⟨w.heap.size, 2, none⟩ (Nat.lt_succ_self _) _).kd, (((H9_9.out.set ⟨w.heap.size, 0, none⟩ (Nat.lt_succ_self _) _).set ⟨w.heap.size, 1, none⟩ (Nat.lt_succ_self _) _).set ⟨w.heap.size, 2, none⟩ (Nat.lt_succ_self _) _).kd,
    ((B9.out.setCell (p := ⟨w.heap.size, 0, none⟩) (Nat.le_refl _) _).setCell (p := ⟨w.heap.size, 1, none⟩) (Nat.le_refl _) _).setCell (p := ⟨w.heap.size, 2, none⟩) (Nat.le_refl _) _⟩

end Go.Proofs.YtfljnhmpelpdaaaDoor.Tok
