/- NetNames: the law's function, for every input. -/
import Derived.Test.YtfkmolbcgnkfdaaDoorChecksLaw
import Derived.Test.YtfkmolbcgnkfdaaDoorNamesP
namespace Go.Proofs.YtfkmolbcgnkfdaaDoor
open Go.RowKit
attribute [local go_sem] Oper.semAt_some
set_option maxRecDepth 100000
set_option maxHeartbeats 4000000

theorem law_names_few (c : Ci) (a b l g : Value) (w : World) (h : Cir w a b l g c) (hf : fewcB c = false) :
    Calls Tryd.prog 6 #[.agg #[a, b, l, g]] w fun e w' => e = .returned (.bool true) ∧ Below w.heap.size w w' := by
  have HC := Lib.hid h
  obtain ⟨p1, q1, p2, q2, p3, q3, p4, q4, rfl, rfl, rfl, rfl⟩ := h.slices
  have HF := Lib.hid hf
  clear h hf
  go_enter Tryd.func6, Tryd.ntmps6
  go_wp2_with fail
  have a1 : Below w.heap.size w (w.alloc (.cells #[.slice p1 c.ins.length q1, .slice p2 c.outs.length q2, .slice p3 c.las.length q3, .slice p4 c.gts.length q4] 26)) := ((Below.refl w.heap.size w).alloc (by first | exact Nat.le_refl _ | (simp only [World.size_alloc]; omega)) (.cells #[.slice p1 c.ins.length q1, .slice p2 c.outs.length q2, .slice p3 c.las.length q3, .slice p4 c.gts.length q4] 26))
  have T_new0 := (Blk.new w #[.slice p1 c.ins.length q1, .slice p2 c.outs.length q2, .slice p3 c.las.length q3, .slice p4 c.gts.length q4] 26)
  have KT_00 := Lib.hid T_new0
  clear T_new0
  have C_1 := Lib.hid (HC.out.below a1)
  clear HC
  have B_1 := Lib.hid a1
  clear a1
  generalize (w.alloc (.cells #[.slice p1 c.ins.length q1, .slice p2 c.outs.length q2, .slice p3 c.las.length q3, .slice p4 c.gts.length q4] 26)) = w1 at C_1 KT_00 B_1 ⊢
  refine (works_any _).mono ?_
  rintro e w2 ⟨rfl, b2⟩
  have C_2 := Lib.hid (C_1.out.below b2)
  clear C_1
  have KT_2 := Lib.hid (KT_00.out.below b2 KT_00.out.lt)
  clear KT_00
  have B_2 := Lib.hid (B_1.out.trans (b2.mono B_1.out.size))
  clear B_1
  clear b2
  have lT_2 : w.heap.size < w2.heap.size := KT_2.out.lt
  have cT_0_2 : w2.cell? ⟨w.heap.size, 0, none⟩ = some (.slice p1 c.ins.length q1) := KT_2.out.cell 0
  have cT_1_2 : w2.cell? ⟨w.heap.size, 1, none⟩ = some (.slice p2 c.outs.length q2) := KT_2.out.cell 1
  have cT_2_2 : w2.cell? ⟨w.heap.size, 2, none⟩ = some (.slice p3 c.las.length q3) := KT_2.out.cell 2
  have cT_3_2 : w2.cell? ⟨w.heap.size, 3, none⟩ = some (.slice p4 c.gts.length q4) := KT_2.out.cell 3
  go_wp2_with fail
  clear lT_2 cT_0_2 cT_1_2 cT_2_2 cT_3_2
  refine (fewc_any c _ _ _ _ false _ C_2.out HF.out).mono ?_
  rintro e w3 ⟨rfl, b3⟩
  have C_3 := Lib.hid (C_2.out.below b3)
  clear C_2
  have KT_3 := Lib.hid (KT_2.out.below b3 KT_2.out.lt)
  clear KT_2
  have B_3 := Lib.hid (B_2.out.trans (b3.mono B_2.out.size))
  clear B_2
  clear b3
  have lT_3 : w.heap.size < w3.heap.size := KT_3.out.lt
  have cT_0_3 : w3.cell? ⟨w.heap.size, 0, none⟩ = some (.slice p1 c.ins.length q1) := KT_3.out.cell 0
  have cT_1_3 : w3.cell? ⟨w.heap.size, 1, none⟩ = some (.slice p2 c.outs.length q2) := KT_3.out.cell 1
  have cT_2_3 : w3.cell? ⟨w.heap.size, 2, none⟩ = some (.slice p3 c.las.length q3) := KT_3.out.cell 2
  have cT_3_3 : w3.cell? ⟨w.heap.size, 3, none⟩ = some (.slice p4 c.gts.length q4) := KT_3.out.cell 3
  go_wp2
  go_ret
  exact ⟨rfl, B_3.out⟩

theorem law_names_no (c : Ci) (a b l g : Value) (w : World) (h : Cir w a b l g c) (hf : fewcB c = true) (ck : Int) (cs : ByteArray) (hck : checkC c = (ck, cs)) (h0 : ¬ ck = 0) (h6 : ¬ ck = 6) :
    Calls Tryd.prog 6 #[.agg #[a, b, l, g]] w fun e w' => e = .returned (.bool true) ∧ Below w.heap.size w w' := by
  have HC := Lib.hid h
  obtain ⟨p1, q1, p2, q2, p3, q3, p4, q4, rfl, rfl, rfl, rfl⟩ := h.slices
  have HF := Lib.hid hf
  clear h hf
  have BC := Lib.hid (fewcB_get HF.out)
  have HCK := Lib.hid hck
  clear hck
  have d0 : (ck != 0) = true := by rw [bne_iff_ne]; exact h0
  have d0' : (ck == 0) = false := by rw [beq_eq_false_iff_ne]; exact h0
  have d6 : (ck != 6) = true := by rw [bne_iff_ne]; exact h6
  have d6' : (ck == 6) = false := by rw [beq_eq_false_iff_ne]; exact h6
  clear h0 h6
  go_enter Tryd.func6, Tryd.ntmps6
  go_wp2_with fail
  have a1 : Below w.heap.size w (w.alloc (.cells #[.slice p1 c.ins.length q1, .slice p2 c.outs.length q2, .slice p3 c.las.length q3, .slice p4 c.gts.length q4] 26)) := ((Below.refl w.heap.size w).alloc (by first | exact Nat.le_refl _ | (simp only [World.size_alloc]; omega)) (.cells #[.slice p1 c.ins.length q1, .slice p2 c.outs.length q2, .slice p3 c.las.length q3, .slice p4 c.gts.length q4] 26))
  have T_new0 := (Blk.new w #[.slice p1 c.ins.length q1, .slice p2 c.outs.length q2, .slice p3 c.las.length q3, .slice p4 c.gts.length q4] 26)
  have KT_00 := Lib.hid T_new0
  clear T_new0
  have C_1 := Lib.hid (HC.out.below a1)
  clear HC
  have B_1 := Lib.hid a1
  clear a1
  generalize (w.alloc (.cells #[.slice p1 c.ins.length q1, .slice p2 c.outs.length q2, .slice p3 c.las.length q3, .slice p4 c.gts.length q4] 26)) = w1 at C_1 KT_00 B_1 ⊢
  refine (works_any _).mono ?_
  rintro e w2 ⟨rfl, b2⟩
  have C_2 := Lib.hid (C_1.out.below b2)
  clear C_1
  have KT_2 := Lib.hid (KT_00.out.below b2 KT_00.out.lt)
  clear KT_00
  have B_2 := Lib.hid (B_1.out.trans (b2.mono B_1.out.size))
  clear B_1
  clear b2
  have lT_2 : w.heap.size < w2.heap.size := KT_2.out.lt
  have cT_0_2 : w2.cell? ⟨w.heap.size, 0, none⟩ = some (.slice p1 c.ins.length q1) := KT_2.out.cell 0
  have cT_1_2 : w2.cell? ⟨w.heap.size, 1, none⟩ = some (.slice p2 c.outs.length q2) := KT_2.out.cell 1
  have cT_2_2 : w2.cell? ⟨w.heap.size, 2, none⟩ = some (.slice p3 c.las.length q3) := KT_2.out.cell 2
  have cT_3_2 : w2.cell? ⟨w.heap.size, 3, none⟩ = some (.slice p4 c.gts.length q4) := KT_2.out.cell 3
  go_wp2_with fail
  clear lT_2 cT_0_2 cT_1_2 cT_2_2 cT_3_2
  refine (fewc_any c _ _ _ _ true _ C_2.out HF.out).mono ?_
  rintro e w3 ⟨rfl, b3⟩
  have C_3 := Lib.hid (C_2.out.below b3)
  clear C_2
  have KT_3 := Lib.hid (KT_2.out.below b3 KT_2.out.lt)
  clear KT_2
  have B_3 := Lib.hid (B_2.out.trans (b3.mono B_2.out.size))
  clear B_2
  clear b3
  have lT_3 : w.heap.size < w3.heap.size := KT_3.out.lt
  have cT_0_3 : w3.cell? ⟨w.heap.size, 0, none⟩ = some (.slice p1 c.ins.length q1) := KT_3.out.cell 0
  have cT_1_3 : w3.cell? ⟨w.heap.size, 1, none⟩ = some (.slice p2 c.outs.length q2) := KT_3.out.cell 1
  have cT_2_3 : w3.cell? ⟨w.heap.size, 2, none⟩ = some (.slice p3 c.las.length q3) := KT_3.out.cell 2
  have cT_3_3 : w3.cell? ⟨w.heap.size, 3, none⟩ = some (.slice p4 c.gts.length q4) := KT_3.out.cell 3
  go_wp2_with fail
  clear lT_3 cT_0_3 cT_1_3 cT_2_3 cT_3_3
  refine (check_bx c _ _ _ _ ck cs _ C_3.out BC.out HCK.out).mono ?_
  rintro e w4 ⟨rfl, b4⟩
  have C_4 := Lib.hid (C_3.out.below b4)
  clear C_3
  have KT_4 := Lib.hid (KT_3.out.below b4 KT_3.out.lt)
  clear KT_3
  have B_4 := Lib.hid (B_3.out.trans (b4.mono B_3.out.size))
  clear B_3
  clear b4
  have lT_4 : w.heap.size < w4.heap.size := KT_4.out.lt
  have cT_0_4 : w4.cell? ⟨w.heap.size, 0, none⟩ = some (.slice p1 c.ins.length q1) := KT_4.out.cell 0
  have cT_1_4 : w4.cell? ⟨w.heap.size, 1, none⟩ = some (.slice p2 c.outs.length q2) := KT_4.out.cell 1
  have cT_2_4 : w4.cell? ⟨w.heap.size, 2, none⟩ = some (.slice p3 c.las.length q3) := KT_4.out.cell 2
  have cT_3_4 : w4.cell? ⟨w.heap.size, 3, none⟩ = some (.slice p4 c.gts.length q4) := KT_4.out.cell 3
  go_wp2_with fail
  clear lT_4 cT_0_4 cT_1_4 cT_2_4 cT_3_4
  refine (nets_any c _ _ _ _ _ C_4.out BC.out.few).mono ?_
  rintro e w5 ⟨V, rfl, hv, b5⟩
  have C_5 := Lib.hid (C_4.out.below b5)
  clear C_4
  have KT_5 := Lib.hid (KT_4.out.below b5 KT_4.out.lt)
  clear KT_4
  have B_5 := Lib.hid (B_4.out.trans (b5.mono B_4.out.size))
  clear B_4
  clear b5
  have hv := Lst.of_row hv
  obtain ⟨vb, vc, rfl⟩ := hv.slice
  have V := Lib.hid hv
  clear hv
  have lT_5 : w.heap.size < w5.heap.size := KT_5.out.lt
  have cT_0_5 : w5.cell? ⟨w.heap.size, 0, none⟩ = some (.slice p1 c.ins.length q1) := KT_5.out.cell 0
  have cT_1_5 : w5.cell? ⟨w.heap.size, 1, none⟩ = some (.slice p2 c.outs.length q2) := KT_5.out.cell 1
  have cT_2_5 : w5.cell? ⟨w.heap.size, 2, none⟩ = some (.slice p3 c.las.length q3) := KT_5.out.cell 2
  have cT_3_5 : w5.cell? ⟨w.heap.size, 3, none⟩ = some (.slice p4 c.gts.length q4) := KT_5.out.cell 3
  go_wp2
  go_ret
  exact ⟨rfl, B_5.out⟩

theorem law_names_six (c : Ci) (a b l g : Value) (w : World) (h : Cir w a b l g c) (hf : fewcB c = true) (cs : ByteArray) (hck : checkC c = (6, cs)) :
    Calls Tryd.prog 6 #[.agg #[a, b, l, g]] w fun e w' => e = .returned (.bool true) ∧ Below w.heap.size w w' := by
  have HC := Lib.hid h
  obtain ⟨p1, q1, p2, q2, p3, q3, p4, q4, rfl, rfl, rfl, rfl⟩ := h.slices
  have HF := Lib.hid hf
  clear h hf
  have BC := Lib.hid (fewcB_get HF.out)
  have HCK := Lib.hid hck
  clear hck
  go_enter Tryd.func6, Tryd.ntmps6
  go_wp2_with fail
  have a1 : Below w.heap.size w (w.alloc (.cells #[.slice p1 c.ins.length q1, .slice p2 c.outs.length q2, .slice p3 c.las.length q3, .slice p4 c.gts.length q4] 26)) := ((Below.refl w.heap.size w).alloc (by first | exact Nat.le_refl _ | (simp only [World.size_alloc]; omega)) (.cells #[.slice p1 c.ins.length q1, .slice p2 c.outs.length q2, .slice p3 c.las.length q3, .slice p4 c.gts.length q4] 26))
  have T_new0 := (Blk.new w #[.slice p1 c.ins.length q1, .slice p2 c.outs.length q2, .slice p3 c.las.length q3, .slice p4 c.gts.length q4] 26)
  have KT_00 := Lib.hid T_new0
  clear T_new0
  have C_1 := Lib.hid (HC.out.below a1)
  clear HC
  have B_1 := Lib.hid a1
  clear a1
  generalize (w.alloc (.cells #[.slice p1 c.ins.length q1, .slice p2 c.outs.length q2, .slice p3 c.las.length q3, .slice p4 c.gts.length q4] 26)) = w1 at C_1 KT_00 B_1 ⊢
  refine (works_any _).mono ?_
  rintro e w2 ⟨rfl, b2⟩
  have C_2 := Lib.hid (C_1.out.below b2)
  clear C_1
  have KT_2 := Lib.hid (KT_00.out.below b2 KT_00.out.lt)
  clear KT_00
  have B_2 := Lib.hid (B_1.out.trans (b2.mono B_1.out.size))
  clear B_1
  clear b2
  have lT_2 : w.heap.size < w2.heap.size := KT_2.out.lt
  have cT_0_2 : w2.cell? ⟨w.heap.size, 0, none⟩ = some (.slice p1 c.ins.length q1) := KT_2.out.cell 0
  have cT_1_2 : w2.cell? ⟨w.heap.size, 1, none⟩ = some (.slice p2 c.outs.length q2) := KT_2.out.cell 1
  have cT_2_2 : w2.cell? ⟨w.heap.size, 2, none⟩ = some (.slice p3 c.las.length q3) := KT_2.out.cell 2
  have cT_3_2 : w2.cell? ⟨w.heap.size, 3, none⟩ = some (.slice p4 c.gts.length q4) := KT_2.out.cell 3
  go_wp2_with fail
  clear lT_2 cT_0_2 cT_1_2 cT_2_2 cT_3_2
  refine (fewc_any c _ _ _ _ true _ C_2.out HF.out).mono ?_
  rintro e w3 ⟨rfl, b3⟩
  have C_3 := Lib.hid (C_2.out.below b3)
  clear C_2
  have KT_3 := Lib.hid (KT_2.out.below b3 KT_2.out.lt)
  clear KT_2
  have B_3 := Lib.hid (B_2.out.trans (b3.mono B_2.out.size))
  clear B_2
  clear b3
  have lT_3 : w.heap.size < w3.heap.size := KT_3.out.lt
  have cT_0_3 : w3.cell? ⟨w.heap.size, 0, none⟩ = some (.slice p1 c.ins.length q1) := KT_3.out.cell 0
  have cT_1_3 : w3.cell? ⟨w.heap.size, 1, none⟩ = some (.slice p2 c.outs.length q2) := KT_3.out.cell 1
  have cT_2_3 : w3.cell? ⟨w.heap.size, 2, none⟩ = some (.slice p3 c.las.length q3) := KT_3.out.cell 2
  have cT_3_3 : w3.cell? ⟨w.heap.size, 3, none⟩ = some (.slice p4 c.gts.length q4) := KT_3.out.cell 3
  go_wp2_with fail
  clear lT_3 cT_0_3 cT_1_3 cT_2_3 cT_3_3
  refine (check_bx c _ _ _ _ 6 cs _ C_3.out BC.out HCK.out).mono ?_
  rintro e w4 ⟨rfl, b4⟩
  have C_4 := Lib.hid (C_3.out.below b4)
  clear C_3
  have KT_4 := Lib.hid (KT_3.out.below b4 KT_3.out.lt)
  clear KT_3
  have B_4 := Lib.hid (B_3.out.trans (b4.mono B_3.out.size))
  clear B_3
  clear b4
  have lT_4 : w.heap.size < w4.heap.size := KT_4.out.lt
  have cT_0_4 : w4.cell? ⟨w.heap.size, 0, none⟩ = some (.slice p1 c.ins.length q1) := KT_4.out.cell 0
  have cT_1_4 : w4.cell? ⟨w.heap.size, 1, none⟩ = some (.slice p2 c.outs.length q2) := KT_4.out.cell 1
  have cT_2_4 : w4.cell? ⟨w.heap.size, 2, none⟩ = some (.slice p3 c.las.length q3) := KT_4.out.cell 2
  have cT_3_4 : w4.cell? ⟨w.heap.size, 3, none⟩ = some (.slice p4 c.gts.length q4) := KT_4.out.cell 3
  go_wp2_with fail
  clear lT_4 cT_0_4 cT_1_4 cT_2_4 cT_3_4
  refine (nets_any c _ _ _ _ _ C_4.out BC.out.few).mono ?_
  rintro e w5 ⟨V, rfl, hv, b5⟩
  have C_5 := Lib.hid (C_4.out.below b5)
  clear C_4
  have KT_5 := Lib.hid (KT_4.out.below b5 KT_4.out.lt)
  clear KT_4
  have B_5 := Lib.hid (B_4.out.trans (b5.mono B_4.out.size))
  clear B_4
  clear b5
  have hv := Lst.of_row hv
  obtain ⟨vb, vc, rfl⟩ := hv.slice
  have V := Lib.hid hv
  clear hv
  have lT_5 : w.heap.size < w5.heap.size := KT_5.out.lt
  have cT_0_5 : w5.cell? ⟨w.heap.size, 0, none⟩ = some (.slice p1 c.ins.length q1) := KT_5.out.cell 0
  have cT_1_5 : w5.cell? ⟨w.heap.size, 1, none⟩ = some (.slice p2 c.outs.length q2) := KT_5.out.cell 1
  have cT_2_5 : w5.cell? ⟨w.heap.size, 2, none⟩ = some (.slice p3 c.las.length q3) := KT_5.out.cell 2
  have cT_3_5 : w5.cell? ⟨w.heap.size, 3, none⟩ = some (.slice p4 c.gts.length q4) := KT_5.out.cell 3
  go_wp2_with fail
  clear lT_5 cT_0_5 cT_1_5 cT_2_5 cT_3_5
  refine (place_ex c _ _ _ _ cs (-1) _ C_5.out BC.out.few (check_six HCK.out)).mono ?_
  rintro e w6 ⟨rfl, b6⟩
  have C_6 := Lib.hid (C_5.out.below b6)
  clear C_5
  have V_6 := Lib.hid (V.out.below b6)
  clear V
  have KT_6 := Lib.hid (KT_5.out.below b6 KT_5.out.lt)
  clear KT_5
  have B_6 := Lib.hid (B_5.out.trans (b6.mono B_5.out.size))
  clear B_5
  clear b6
  go_wp2
  go_ret
  exact ⟨rfl, B_6.out⟩

theorem law_names_ok (c : Ci) (a b l g : Value) (w : World) (h : Cir w a b l g c) (hf : fewcB c = true) (hck : checkC c = (0, noneT)) (hm : May c) :
    Calls Tryd.prog 6 #[.agg #[a, b, l, g]] w fun e w' => e = .returned (.bool true) ∧ Below w.heap.size w w' := by
  have HC := Lib.hid h
  obtain ⟨p1, q1, p2, q2, p3, q3, p4, q4, rfl, rfl, rfl, rfl⟩ := h.slices
  have HF := Lib.hid hf
  clear h hf
  have BC := Lib.hid (fewcB_get HF.out)
  have HCK := Lib.hid hck
  clear hck
  have HM := Lib.hid hm
  have hn200 : ((netsC c).length : Int) ≤ 200 := by have := hm.count; rw [netsC_count]; omega
  have hnl : ((netsC c).length : Int) = (c.ins.length : Int) + (c.las.length : Int) + (c.gts.length : Int) := by rw [netsC_count]; omega
  have hsum : (((netsC c).length : Int) == (c.ins.length : Int) + (c.las.length : Int) + (c.gts.length : Int)) = true := by rw [beq_iff_eq]; exact hnl
  have hcnt := hm.count
  have hl1 : (netsC c).length ≤ 200 := by omega
  have hl2 : c.outs.length ≤ 210 := BC.out.outs.1
  have hl3 : c.gts.length ≤ 210 := BC.out.gts.1
  have HNL := Lib.hid hnl
  clear hm hnl
  go_enter Tryd.func6, Tryd.ntmps6
  go_wp2_with fail
  have a1 : Below w.heap.size w (w.alloc (.cells #[.slice p1 c.ins.length q1, .slice p2 c.outs.length q2, .slice p3 c.las.length q3, .slice p4 c.gts.length q4] 26)) := ((Below.refl w.heap.size w).alloc (by first | exact Nat.le_refl _ | (simp only [World.size_alloc]; omega)) (.cells #[.slice p1 c.ins.length q1, .slice p2 c.outs.length q2, .slice p3 c.las.length q3, .slice p4 c.gts.length q4] 26))
  have T_new0 := (Blk.new w #[.slice p1 c.ins.length q1, .slice p2 c.outs.length q2, .slice p3 c.las.length q3, .slice p4 c.gts.length q4] 26)
  have KT_00 := Lib.hid T_new0
  clear T_new0
  have C_1 := Lib.hid (HC.out.below a1)
  clear HC
  have B_1 := Lib.hid a1
  clear a1
  generalize (w.alloc (.cells #[.slice p1 c.ins.length q1, .slice p2 c.outs.length q2, .slice p3 c.las.length q3, .slice p4 c.gts.length q4] 26)) = w1 at C_1 KT_00 B_1 ⊢
  refine (works_any _).mono ?_
  rintro e w2 ⟨rfl, b2⟩
  have C_2 := Lib.hid (C_1.out.below b2)
  clear C_1
  have KT_2 := Lib.hid (KT_00.out.below b2 KT_00.out.lt)
  clear KT_00
  have B_2 := Lib.hid (B_1.out.trans (b2.mono B_1.out.size))
  clear B_1
  clear b2
  have lT_2 : w.heap.size < w2.heap.size := KT_2.out.lt
  have cT_0_2 : w2.cell? ⟨w.heap.size, 0, none⟩ = some (.slice p1 c.ins.length q1) := KT_2.out.cell 0
  have cT_1_2 : w2.cell? ⟨w.heap.size, 1, none⟩ = some (.slice p2 c.outs.length q2) := KT_2.out.cell 1
  have cT_2_2 : w2.cell? ⟨w.heap.size, 2, none⟩ = some (.slice p3 c.las.length q3) := KT_2.out.cell 2
  have cT_3_2 : w2.cell? ⟨w.heap.size, 3, none⟩ = some (.slice p4 c.gts.length q4) := KT_2.out.cell 3
  go_wp2_with fail
  clear lT_2 cT_0_2 cT_1_2 cT_2_2 cT_3_2
  refine (fewc_any c _ _ _ _ true _ C_2.out HF.out).mono ?_
  rintro e w3 ⟨rfl, b3⟩
  have C_3 := Lib.hid (C_2.out.below b3)
  clear C_2
  have KT_3 := Lib.hid (KT_2.out.below b3 KT_2.out.lt)
  clear KT_2
  have B_3 := Lib.hid (B_2.out.trans (b3.mono B_2.out.size))
  clear B_2
  clear b3
  have lT_3 : w.heap.size < w3.heap.size := KT_3.out.lt
  have cT_0_3 : w3.cell? ⟨w.heap.size, 0, none⟩ = some (.slice p1 c.ins.length q1) := KT_3.out.cell 0
  have cT_1_3 : w3.cell? ⟨w.heap.size, 1, none⟩ = some (.slice p2 c.outs.length q2) := KT_3.out.cell 1
  have cT_2_3 : w3.cell? ⟨w.heap.size, 2, none⟩ = some (.slice p3 c.las.length q3) := KT_3.out.cell 2
  have cT_3_3 : w3.cell? ⟨w.heap.size, 3, none⟩ = some (.slice p4 c.gts.length q4) := KT_3.out.cell 3
  go_wp2_with fail
  clear lT_3 cT_0_3 cT_1_3 cT_2_3 cT_3_3
  refine (check_bx c _ _ _ _ 0 ⟨#[]⟩ _ C_3.out BC.out HCK.out).mono ?_
  rintro e w4 ⟨rfl, b4⟩
  have C_4 := Lib.hid (C_3.out.below b4)
  clear C_3
  have KT_4 := Lib.hid (KT_3.out.below b4 KT_3.out.lt)
  clear KT_3
  have B_4 := Lib.hid (B_3.out.trans (b4.mono B_3.out.size))
  clear B_3
  clear b4
  have lT_4 : w.heap.size < w4.heap.size := KT_4.out.lt
  have cT_0_4 : w4.cell? ⟨w.heap.size, 0, none⟩ = some (.slice p1 c.ins.length q1) := KT_4.out.cell 0
  have cT_1_4 : w4.cell? ⟨w.heap.size, 1, none⟩ = some (.slice p2 c.outs.length q2) := KT_4.out.cell 1
  have cT_2_4 : w4.cell? ⟨w.heap.size, 2, none⟩ = some (.slice p3 c.las.length q3) := KT_4.out.cell 2
  have cT_3_4 : w4.cell? ⟨w.heap.size, 3, none⟩ = some (.slice p4 c.gts.length q4) := KT_4.out.cell 3
  go_wp2_with fail
  clear lT_4 cT_0_4 cT_1_4 cT_2_4 cT_3_4
  refine (nets_any c _ _ _ _ _ C_4.out BC.out.few).mono ?_
  rintro e w5 ⟨V, rfl, hv, b5⟩
  have C_5 := Lib.hid (C_4.out.below b5)
  clear C_4
  have KT_5 := Lib.hid (KT_4.out.below b5 KT_4.out.lt)
  clear KT_4
  have B_5 := Lib.hid (B_4.out.trans (b5.mono B_4.out.size))
  clear B_4
  clear b5
  have hv := Lst.of_row hv
  obtain ⟨vb, vc, rfl⟩ := hv.slice
  have V := Lib.hid hv
  clear hv
  have lT_5 : w.heap.size < w5.heap.size := KT_5.out.lt
  have cT_0_5 : w5.cell? ⟨w.heap.size, 0, none⟩ = some (.slice p1 c.ins.length q1) := KT_5.out.cell 0
  have cT_1_5 : w5.cell? ⟨w.heap.size, 1, none⟩ = some (.slice p2 c.outs.length q2) := KT_5.out.cell 1
  have cT_2_5 : w5.cell? ⟨w.heap.size, 2, none⟩ = some (.slice p3 c.las.length q3) := KT_5.out.cell 2
  have cT_3_5 : w5.cell? ⟨w.heap.size, 3, none⟩ = some (.slice p4 c.gts.length q4) := KT_5.out.cell 3
  have C_a := C_5
  have V_a := V
  have KT_a := KT_5
  have B_a := B_5
  have Qa_0 := Lib.hid (Below.refl w5.heap.size w5)
  clear lT_5 cT_0_5 cT_1_5 cT_2_5 cT_3_5
  have lT_5 : w.heap.size < w5.heap.size := KT_5.out.lt
  have cT_0_5 : w5.cell? ⟨w.heap.size, 0, none⟩ = some (.slice p1 c.ins.length q1) := KT_5.out.cell 0
  have cT_1_5 : w5.cell? ⟨w.heap.size, 1, none⟩ = some (.slice p2 c.outs.length q2) := KT_5.out.cell 1
  have cT_2_5 : w5.cell? ⟨w.heap.size, 2, none⟩ = some (.slice p3 c.las.length q3) := KT_5.out.cell 2
  have cT_3_5 : w5.cell? ⟨w.heap.size, 3, none⟩ = some (.slice p4 c.gts.length q4) := KT_5.out.cell 3
  go_wp2
  clear lT_5 cT_0_5 cT_1_5 cT_2_5 cT_3_5
  go_loopw [8] (fun i wr => ∃ k : Nat, k ≤ (netsC c).length ∧ i = .int .i64 (k : Int) ∧ Below w5.heap.size w5 wr) (fun i _ => (netsC c).length - (intOf i).toNat)
  case atStart => exact ⟨0, by omega, rfl, Qa_0.out⟩
  case round =>
    rename World => wk
    obtain ⟨k, hk, rfl, hBk⟩ := hrel
    have C_ar := Lib.hid (C_a.out.below hBk)
    have V_ar := Lib.hid (V_a.out.below hBk)
    have KT_ar := Lib.hid (KT_a.out.below hBk KT_a.out.lt)
    have B_ar := Lib.hid (B_a.out.trans (hBk.mono B_a.out.size))
    have Qar := Lib.hid hBk
    have HBk := Lib.hid hBk
    clear hBk
    by_cases hltk : k < (netsC c).length
    · have hltk' : (k : Int) < ((netsC c).length : Int) := by omega
      obtain ⟨eg, eo, ec, x, hx, hv, hg, hc⟩ := V_ar.out.at_ stc_len hltk
      injection hv with e1 e2 e3
      subst e1 e3
      clear e2
      have c0 : wk.cell? ⟨eg, eo + k, none⟩ = some (.string x) := by have := hc 0 (by omega); simpa [stc] using this
      have HP := Lib.hid (HM.out.place hx)
      clear hc hx
      have lT_0 : w.heap.size < wk.heap.size := KT_ar.out.lt
      have cT_0_0 : wk.cell? ⟨w.heap.size, 0, none⟩ = some (.slice p1 c.ins.length q1) := KT_ar.out.cell 0
      have cT_1_0 : wk.cell? ⟨w.heap.size, 1, none⟩ = some (.slice p2 c.outs.length q2) := KT_ar.out.cell 1
      have cT_2_0 : wk.cell? ⟨w.heap.size, 2, none⟩ = some (.slice p3 c.las.length q3) := KT_ar.out.cell 2
      have cT_3_0 : wk.cell? ⟨w.heap.size, 3, none⟩ = some (.slice p4 c.gts.length q4) := KT_ar.out.cell 3
      go_wp2_with fail
      have HG := Lib.hid hg
      have HC0 := Lib.hid c0
      clear hg c0
      clear lT_0 cT_0_0 cT_1_0 cT_2_0 cT_3_0
      have hd1 : Below wk.heap.size wk wk.drew := (Below.refl _ _).drew
      have HS1 : Hid (∀ X : World, Below wk.heap.size wk X → X.cell? ⟨w.heap.size, 0, none⟩ = some (.slice p1 c.ins.length q1) ∧ X.cell? ⟨w.heap.size, 1, none⟩ = some (.slice p2 c.outs.length q2) ∧ X.cell? ⟨w.heap.size, 2, none⟩ = some (.slice p3 c.las.length q3) ∧ X.cell? ⟨w.heap.size, 3, none⟩ = some (.slice p4 c.gts.length q4) ∧ X.cell? ⟨eg, eo + k, none⟩ = some (.string x)) := Lib.hid fun X h => ⟨(h.cell (p := ⟨w.heap.size, 0, none⟩) KT_ar.out.lt).trans (KT_ar.out.cell 0), (h.cell (p := ⟨w.heap.size, 1, none⟩) KT_ar.out.lt).trans (KT_ar.out.cell 1), (h.cell (p := ⟨w.heap.size, 2, none⟩) KT_ar.out.lt).trans (KT_ar.out.cell 2), (h.cell (p := ⟨w.heap.size, 3, none⟩) KT_ar.out.lt).trans (KT_ar.out.cell 3), (h.cell (p := ⟨eg, eo + k, none⟩) HG.out).trans HC0.out⟩
      obtain ⟨x1_0, x1_1, x1_2, x1_3, x1_4⟩ := HS1.out _ hd1
      first | go_loud (go_region_held3 (fun X => X.cell? ⟨w.heap.size, 0, none⟩ = some (.slice p1 c.ins.length q1) ∧ X.cell? ⟨w.heap.size, 1, none⟩ = some (.slice p2 c.outs.length q2) ∧ X.cell? ⟨w.heap.size, 2, none⟩ = some (.slice p3 c.las.length q3) ∧ X.cell? ⟨w.heap.size, 3, none⟩ = some (.slice p4 c.gts.length q4) ∧ X.cell? ⟨eg, eo + k, none⟩ = some (.string x) ∧ Below wk.heap.size wk X) (go_keep)
        (first | (go_at_call 22; (with_reducible refine (place_ex c _ _ _ _ x (k : Int) _ (C_ar.out.below (by assumption)) BC.out.few HP.out).mono ?_); rintro e wk1 ⟨rfl, hb⟩; have rB1 := chain (a := wk) hb (by assumption); obtain ⟨x1_0, x1_1, x1_2, x1_3, x1_4⟩ := HS1.out _ rB1; clear hb))) | fail
      have b1 : Below wk.heap.size wk wk1 := by assumption
      clear HS1
      have C_1 := Lib.hid (C_ar.out.below b1)
      clear C_ar
      have V_1 := Lib.hid (V_ar.out.below b1)
      clear V_ar
      have Qa_1 := Lib.hid (Qar.out.trans (b1.mono Qar.out.size))
      clear Qar
      have KT_1 := Lib.hid (KT_ar.out.below b1 KT_ar.out.lt)
      clear KT_ar
      have B_1 := Lib.hid (B_ar.out.trans (b1.mono B_ar.out.size))
      clear B_ar
      go_wp2
      refine ⟨⟨k + 1, by omega, by go_num, Qa_1.out⟩, ?_⟩
      simp [intOf]; omega
    · have hgek : ¬ (k : Int) < ((netsC c).length : Int) := by omega
      have lT_0 : w.heap.size < wk.heap.size := KT_ar.out.lt
      have cT_0_0 : wk.cell? ⟨w.heap.size, 0, none⟩ = some (.slice p1 c.ins.length q1) := KT_ar.out.cell 0
      have cT_1_0 : wk.cell? ⟨w.heap.size, 1, none⟩ = some (.slice p2 c.outs.length q2) := KT_ar.out.cell 1
      have cT_2_0 : wk.cell? ⟨w.heap.size, 2, none⟩ = some (.slice p3 c.las.length q3) := KT_ar.out.cell 2
      have cT_3_0 : wk.cell? ⟨w.heap.size, 3, none⟩ = some (.slice p4 c.gts.length q4) := KT_ar.out.cell 3
      go_wp2
      clear lT_0 cT_0_0 cT_1_0 cT_2_0 cT_3_0
      clear hgek
      go_loopw [9] (fun i wr => ∃ k : Nat, k ≤ c.outs.length ∧ i = .int .i64 (k : Int) ∧ Below w5.heap.size w5 wr) (fun i _ => c.outs.length - (intOf i).toNat)
      case atStart => exact ⟨0, by omega, rfl, Qar.out⟩
      case round =>
        rename World => wm
        obtain ⟨m, hm, rfl, hBm⟩ := hrel
        have C_ar := Lib.hid (C_a.out.below hBm)
        have V_ar := Lib.hid (V_a.out.below hBm)
        have KT_ar := Lib.hid (KT_a.out.below hBm KT_a.out.lt)
        have B_ar := Lib.hid (B_a.out.trans (hBm.mono B_a.out.size))
        have Qar := Lib.hid hBm
        have HBm := Lib.hid hBm
        clear hBm
        by_cases hltm : m < c.outs.length
        · have hltm' : (m : Int) < (c.outs.length : Int) := by omega
          obtain ⟨eg, eo, ec, x, hx, hv, hg, hc⟩ := C_ar.out.outs.lst.at_ stc_len hltm
          injection hv with e1 e2 e3
          subst e1 e3
          clear e2
          have c0 : wm.cell? ⟨eg, eo + m, none⟩ = some (.string x) := by have := hc 0 (by omega); simpa [stc] using this
          obtain ⟨pl, hpl⟩ : ∃ pl, placeL (netsC c) x = pl := ⟨_, rfl⟩
          have hp0 := HM.out.out (List.mem_of_getElem? hx)
          rw [hpl] at hp0
          have hp1 : ¬ pl < 0 := by omega
          have HP := Lib.hid hpl
          have HG := Lib.hid hg
          have HC0 := Lib.hid c0
          clear hc hx hpl hp0 hg c0
          have lT_0 : w.heap.size < wm.heap.size := KT_ar.out.lt
          have cT_0_0 : wm.cell? ⟨w.heap.size, 0, none⟩ = some (.slice p1 c.ins.length q1) := KT_ar.out.cell 0
          have cT_1_0 : wm.cell? ⟨w.heap.size, 1, none⟩ = some (.slice (some ⟨eg, eo, none⟩) c.outs.length q2) := KT_ar.out.cell 1
          have cT_2_0 : wm.cell? ⟨w.heap.size, 2, none⟩ = some (.slice p3 c.las.length q3) := KT_ar.out.cell 2
          have cT_3_0 : wm.cell? ⟨w.heap.size, 3, none⟩ = some (.slice p4 c.gts.length q4) := KT_ar.out.cell 3
          go_wp2_with fail
          clear lT_0 cT_0_0 cT_1_0 cT_2_0 cT_3_0
          have hd1 : Below wm.heap.size wm wm.drew := (Below.refl _ _).drew
          have HS1 : Hid (∀ X : World, Below wm.heap.size wm X → X.cell? ⟨w.heap.size, 0, none⟩ = some (.slice p1 c.ins.length q1) ∧ X.cell? ⟨w.heap.size, 1, none⟩ = some (.slice (some ⟨eg, eo, none⟩) c.outs.length q2) ∧ X.cell? ⟨w.heap.size, 2, none⟩ = some (.slice p3 c.las.length q3) ∧ X.cell? ⟨w.heap.size, 3, none⟩ = some (.slice p4 c.gts.length q4) ∧ X.cell? ⟨eg, eo + m, none⟩ = some (.string x)) := Lib.hid fun X h => ⟨(h.cell (p := ⟨w.heap.size, 0, none⟩) KT_ar.out.lt).trans (KT_ar.out.cell 0), (h.cell (p := ⟨w.heap.size, 1, none⟩) KT_ar.out.lt).trans (KT_ar.out.cell 1), (h.cell (p := ⟨w.heap.size, 2, none⟩) KT_ar.out.lt).trans (KT_ar.out.cell 2), (h.cell (p := ⟨w.heap.size, 3, none⟩) KT_ar.out.lt).trans (KT_ar.out.cell 3), (h.cell (p := ⟨eg, eo + m, none⟩) HG.out).trans HC0.out⟩
          obtain ⟨x1_0, x1_1, x1_2, x1_3, x1_4⟩ := HS1.out _ hd1
          first | go_loud (go_region_held3 (fun X => X.cell? ⟨w.heap.size, 0, none⟩ = some (.slice p1 c.ins.length q1) ∧ X.cell? ⟨w.heap.size, 1, none⟩ = some (.slice (some ⟨eg, eo, none⟩) c.outs.length q2) ∧ X.cell? ⟨w.heap.size, 2, none⟩ = some (.slice p3 c.las.length q3) ∧ X.cell? ⟨w.heap.size, 3, none⟩ = some (.slice p4 c.gts.length q4) ∧ X.cell? ⟨eg, eo + m, none⟩ = some (.string x) ∧ Below wm.heap.size wm X) (go_keep)
            (first | (go_at_call 22; (with_reducible refine (place_ex c _ _ _ _ x pl _ (C_ar.out.below (by assumption)) BC.out.few HP.out).mono ?_); rintro e wm1 ⟨rfl, hb⟩; have rB1 := chain (a := wm) hb (by assumption); obtain ⟨x1_0, x1_1, x1_2, x1_3, x1_4⟩ := HS1.out _ rB1; clear hb))) | fail
          have b1 : Below wm.heap.size wm wm1 := by assumption
          clear HS1
          have C_1 := Lib.hid (C_ar.out.below b1)
          clear C_ar
          have V_1 := Lib.hid (V_ar.out.below b1)
          clear V_ar
          have Qa_1 := Lib.hid (Qar.out.trans (b1.mono Qar.out.size))
          clear Qar
          have KT_1 := Lib.hid (KT_ar.out.below b1 KT_ar.out.lt)
          clear KT_ar
          have B_1 := Lib.hid (B_ar.out.trans (b1.mono B_ar.out.size))
          clear B_ar
          go_wp2
          refine ⟨⟨m + 1, by omega, by go_num, Qa_1.out⟩, ?_⟩
          simp [intOf]; omega
        · have hgem : ¬ (m : Int) < (c.outs.length : Int) := by omega
          have lT_0 : w.heap.size < wm.heap.size := KT_ar.out.lt
          have cT_0_0 : wm.cell? ⟨w.heap.size, 0, none⟩ = some (.slice p1 c.ins.length q1) := KT_ar.out.cell 0
          have cT_1_0 : wm.cell? ⟨w.heap.size, 1, none⟩ = some (.slice p2 c.outs.length q2) := KT_ar.out.cell 1
          have cT_2_0 : wm.cell? ⟨w.heap.size, 2, none⟩ = some (.slice p3 c.las.length q3) := KT_ar.out.cell 2
          have cT_3_0 : wm.cell? ⟨w.heap.size, 3, none⟩ = some (.slice p4 c.gts.length q4) := KT_ar.out.cell 3
          go_wp2
          clear lT_0 cT_0_0 cT_1_0 cT_2_0 cT_3_0
          clear hgem
          go_loopw [10] (fun i wr => ∃ k : Nat, k ≤ c.gts.length ∧ i = .int .i64 (k : Int) ∧ Below w5.heap.size w5 wr) (fun i _ => c.gts.length - (intOf i).toNat)
          case atStart => exact ⟨0, by omega, rfl, Qar.out⟩
          case round =>
            rename World => wn
            obtain ⟨n, hn, rfl, hBn⟩ := hrel
            have C_ar := Lib.hid (C_a.out.below hBn)
            have V_ar := Lib.hid (V_a.out.below hBn)
            have KT_ar := Lib.hid (KT_a.out.below hBn KT_a.out.lt)
            have B_ar := Lib.hid (B_a.out.trans (hBn.mono B_a.out.size))
            have Qar := Lib.hid hBn
            have HBn := Lib.hid hBn
            clear hBn
            by_cases hltn : n < c.gts.length
            · have hltn' : (n : Int) < (c.gts.length : Int) := by omega
              obtain ⟨gx, hgx0⟩ : ∃ gx, c.gts[n]? = some gx := ⟨_, List.getElem?_eq_getElem hltn⟩
              have HX0 := Lib.hid hgx0
              clear hgx0
              have hgl : gx.ins.length ≤ 12 := (fewgB_get (BC.out.gts.2 gx (List.mem_of_getElem? HX0.out))).1.1
              have lT_0 : w.heap.size < wn.heap.size := KT_ar.out.lt
              have cT_0_0 : wn.cell? ⟨w.heap.size, 0, none⟩ = some (.slice p1 c.ins.length q1) := KT_ar.out.cell 0
              have cT_1_0 : wn.cell? ⟨w.heap.size, 1, none⟩ = some (.slice p2 c.outs.length q2) := KT_ar.out.cell 1
              have cT_2_0 : wn.cell? ⟨w.heap.size, 2, none⟩ = some (.slice p3 c.las.length q3) := KT_ar.out.cell 2
              have cT_3_0 : wn.cell? ⟨w.heap.size, 3, none⟩ = some (.slice p4 c.gts.length q4) := KT_ar.out.cell 3
              go_wp2
              clear lT_0 cT_0_0 cT_1_0 cT_2_0 cT_3_0
              go_loopw [11] (fun i wr => ∃ k : Nat, k ≤ gx.ins.length ∧ i = .int .i64 (k : Int) ∧ Below w5.heap.size w5 wr) (fun i _ => gx.ins.length - (intOf i).toNat)
              case atStart => exact ⟨0, by omega, rfl, Qar.out⟩
              case round =>
                rename World => wj
                obtain ⟨j, hj, rfl, hBj⟩ := hrel
                have C_ar := Lib.hid (C_a.out.below hBj)
                have V_ar := Lib.hid (V_a.out.below hBj)
                have KT_ar := Lib.hid (KT_a.out.below hBj KT_a.out.lt)
                have B_ar := Lib.hid (B_a.out.trans (hBj.mono B_a.out.size))
                have Qar := Lib.hid hBj
                have HBj := Lib.hid hBj
                clear hBj
                by_cases hltj : j < gx.ins.length
                · have hltj' : (j : Int) < (gx.ins.length : Int) := by omega
                  obtain ⟨gg, go, gc, gx', gr, hgx, hga, hgv, hgg, t0, t1, t2, t3, t4⟩ := C_ar.out.gts.at_ hltn
                  injection hgv with e1 e2 e3
                  subst e1 e3
                  clear e2
                  obtain rfl : gx = gx' := Option.some.inj (HX0.out.symm.trans hgx)
                  obtain ⟨ip, iq, hiv⟩ := hga.ins.lst.slice
                  have HIN := Lib.hid hga.ins
                  rw [hiv] at t2 HIN
                  clear hiv hga hgx t0 t1 t3 t4
                  obtain ⟨eg, eo, ec, x, hx, hv, hg, hc⟩ := HIN.out.lst.at_ stc_len hltj
                  injection hv with e1 e2 e3
                  subst e1 e3
                  clear e2
                  have c0 : wj.cell? ⟨eg, eo + j, none⟩ = some (.string x) := by have := hc 0 (by omega); simpa [stc] using this
                  obtain ⟨pl, hpl⟩ : ∃ pl, placeL (netsC c) x = pl := ⟨_, rfl⟩
                  have hp0 := HM.out.ins (List.mem_of_getElem? HX0.out) (List.mem_of_getElem? hx)
                  rw [hpl] at hp0
                  have hp1 : ¬ pl < 0 := by omega
                  have HP := Lib.hid hpl
                  have HG := Lib.hid hg
                  have HC0 := Lib.hid c0
                  have HT2 := Lib.hid t2
                  have HGG := Lib.hid hgg
                  clear hc hx hpl hp0 hg c0
                  have lT_0 : w.heap.size < wj.heap.size := KT_ar.out.lt
                  have cT_0_0 : wj.cell? ⟨w.heap.size, 0, none⟩ = some (.slice p1 c.ins.length q1) := KT_ar.out.cell 0
                  have cT_1_0 : wj.cell? ⟨w.heap.size, 1, none⟩ = some (.slice p2 c.outs.length q2) := KT_ar.out.cell 1
                  have cT_2_0 : wj.cell? ⟨w.heap.size, 2, none⟩ = some (.slice p3 c.las.length q3) := KT_ar.out.cell 2
                  have cT_3_0 : wj.cell? ⟨w.heap.size, 3, none⟩ = some (.slice (some ⟨gg, go, none⟩) c.gts.length q4) := KT_ar.out.cell 3
                  go_wp2_with fail
                  clear t2 hgg
                  clear lT_0 cT_0_0 cT_1_0 cT_2_0 cT_3_0
                  have hd1 : Below wj.heap.size wj wj.drew := (Below.refl _ _).drew
                  have HS1 : Hid (∀ X : World, Below wj.heap.size wj X → X.cell? ⟨w.heap.size, 0, none⟩ = some (.slice p1 c.ins.length q1) ∧ X.cell? ⟨w.heap.size, 1, none⟩ = some (.slice p2 c.outs.length q2) ∧ X.cell? ⟨w.heap.size, 2, none⟩ = some (.slice p3 c.las.length q3) ∧ X.cell? ⟨w.heap.size, 3, none⟩ = some (.slice (some ⟨gg, go, none⟩) c.gts.length q4) ∧ X.cell? ⟨eg, eo + j, none⟩ = some (.string x) ∧ X.cell? ⟨gg, go + n * 5 + 2, none⟩ = some (.slice (some ⟨eg, eo, none⟩) gx.ins.length iq)) := Lib.hid fun X h => ⟨(h.cell (p := ⟨w.heap.size, 0, none⟩) KT_ar.out.lt).trans (KT_ar.out.cell 0), (h.cell (p := ⟨w.heap.size, 1, none⟩) KT_ar.out.lt).trans (KT_ar.out.cell 1), (h.cell (p := ⟨w.heap.size, 2, none⟩) KT_ar.out.lt).trans (KT_ar.out.cell 2), (h.cell (p := ⟨w.heap.size, 3, none⟩) KT_ar.out.lt).trans (KT_ar.out.cell 3), (h.cell (p := ⟨eg, eo + j, none⟩) HG.out).trans HC0.out, (h.cell (p := ⟨gg, go + n * 5 + 2, none⟩) HGG.out).trans HT2.out⟩
                  obtain ⟨x1_0, x1_1, x1_2, x1_3, x1_4, x1_5⟩ := HS1.out _ hd1
                  first | go_loud (go_region_held3 (fun X => X.cell? ⟨w.heap.size, 0, none⟩ = some (.slice p1 c.ins.length q1) ∧ X.cell? ⟨w.heap.size, 1, none⟩ = some (.slice p2 c.outs.length q2) ∧ X.cell? ⟨w.heap.size, 2, none⟩ = some (.slice p3 c.las.length q3) ∧ X.cell? ⟨w.heap.size, 3, none⟩ = some (.slice (some ⟨gg, go, none⟩) c.gts.length q4) ∧ X.cell? ⟨eg, eo + j, none⟩ = some (.string x) ∧ X.cell? ⟨gg, go + n * 5 + 2, none⟩ = some (.slice (some ⟨eg, eo, none⟩) gx.ins.length iq) ∧ Below wj.heap.size wj X) (go_keep)
                    (first | (go_at_call 22; (with_reducible refine (place_ex c _ _ _ _ x pl _ (C_ar.out.below (by assumption)) BC.out.few HP.out).mono ?_); rintro e wj1 ⟨rfl, hb⟩; have rB1 := chain (a := wj) hb (by assumption); obtain ⟨x1_0, x1_1, x1_2, x1_3, x1_4, x1_5⟩ := HS1.out _ rB1; clear hb))) | fail
                  have b1 : Below wj.heap.size wj wj1 := by assumption
                  clear HS1
                  have C_1 := Lib.hid (C_ar.out.below b1)
                  clear C_ar
                  have V_1 := Lib.hid (V_ar.out.below b1)
                  clear V_ar
                  have Qa_1 := Lib.hid (Qar.out.trans (b1.mono Qar.out.size))
                  clear Qar
                  have KT_1 := Lib.hid (KT_ar.out.below b1 KT_ar.out.lt)
                  clear KT_ar
                  have B_1 := Lib.hid (B_ar.out.trans (b1.mono B_ar.out.size))
                  clear B_ar
                  go_wp2
                  refine ⟨⟨j + 1, by omega, by go_num, Qa_1.out⟩, ?_⟩
                  simp [intOf]; omega
                · have hgej : ¬ (j : Int) < (gx.ins.length : Int) := by omega
                  obtain ⟨gg, go, gc, gx', gr, hgx, hga, hgv, hgg, t0, t1, t2, t3, t4⟩ := C_ar.out.gts.at_ hltn
                  injection hgv with e1 e2 e3
                  subst e1 e3
                  clear e2
                  obtain rfl : gx = gx' := Option.some.inj (HX0.out.symm.trans hgx)
                  obtain ⟨ip, iq, hiv⟩ := hga.ins.lst.slice
                  have HIN := Lib.hid hga.ins
                  rw [hiv] at t2 HIN
                  clear hiv hga hgx t0 t1 t3 t4
                  have lT_0 : w.heap.size < wj.heap.size := KT_ar.out.lt
                  have cT_0_0 : wj.cell? ⟨w.heap.size, 0, none⟩ = some (.slice p1 c.ins.length q1) := KT_ar.out.cell 0
                  have cT_1_0 : wj.cell? ⟨w.heap.size, 1, none⟩ = some (.slice p2 c.outs.length q2) := KT_ar.out.cell 1
                  have cT_2_0 : wj.cell? ⟨w.heap.size, 2, none⟩ = some (.slice p3 c.las.length q3) := KT_ar.out.cell 2
                  have cT_3_0 : wj.cell? ⟨w.heap.size, 3, none⟩ = some (.slice (some ⟨gg, go, none⟩) c.gts.length q4) := KT_ar.out.cell 3
                  clear HIN
                  go_wp2
                  refine ⟨⟨n + 1, by omega, by go_num, Qar.out⟩, ?_⟩
                  simp [intOf]; omega
            · have hgen : ¬ (n : Int) < (c.gts.length : Int) := by omega
              have lT_0 : w.heap.size < wn.heap.size := KT_ar.out.lt
              have cT_0_0 : wn.cell? ⟨w.heap.size, 0, none⟩ = some (.slice p1 c.ins.length q1) := KT_ar.out.cell 0
              have cT_1_0 : wn.cell? ⟨w.heap.size, 1, none⟩ = some (.slice p2 c.outs.length q2) := KT_ar.out.cell 1
              have cT_2_0 : wn.cell? ⟨w.heap.size, 2, none⟩ = some (.slice p3 c.las.length q3) := KT_ar.out.cell 2
              have cT_3_0 : wn.cell? ⟨w.heap.size, 3, none⟩ = some (.slice p4 c.gts.length q4) := KT_ar.out.cell 3
              go_wp2
              go_ret
              exact ⟨rfl, B_ar.out⟩

theorem law_names (c : Ci) (a b l g : Value) (w : World) (h : Cir w a b l g c) :
    Calls Tryd.prog 6 #[.agg #[a, b, l, g]] w fun e w' => e = .returned (.bool true) ∧ Below w.heap.size w w' := by
  cases hf : fewcB c
  · exact law_names_few c a b l g w h hf
  · obtain ⟨ck, cs, hck⟩ : ∃ x y, checkC c = (x, y) := ⟨_, _, rfl⟩
    by_cases h0 : ck = 0
    · subst h0
      obtain ⟨rfl, hm⟩ := check_zero hck
      exact law_names_ok c a b l g w h hf hck hm
    · by_cases h6 : ck = 6
      · subst h6
        exact law_names_six c a b l g w h hf cs hck
      · exact law_names_no c a b l g w h hf ck cs hck h0 h6
end Go.Proofs.YtfkmolbcgnkfdaaDoor
