/- A gate in one way. -/
import Derived.Test.YtfkmolbcgnkfdaaDoorCanon
import Derived.Deep.RegionHeld3
namespace Go.Proofs.YtfkmolbcgnkfdaaDoor
open Go.RowKit
attribute [local go_sem] Oper.semAt_some
set_option maxRecDepth 100000
set_option maxHeartbeats 8000000

theorem canon_same1 (g : Gt) (vi vr : Value) (w : World) (hi : Inn w vi g.ins) (hr : Inn w vr g.rows) (hil : g.ins.length ≤ 100000) (hrl : g.rows.length ≤ 100000) (hz : g.name.size ≤ maxLen) (hw : (Lit.int .i64 g.op).wf = true) (h10 : ¬ g.op = 10) (h1 : ¬ g.ins.length = 1) :
    Calls Tryd.prog 25 #[.agg #[.string g.name, .int .i64 g.op, vi, vr, .bool g.off]] w fun e w' => ∃ r : Gr, e = .returned (.agg #[.string r.name, .int .i64 r.op, r.vi, r.vr, .bool r.off]) ∧ GtAt w' r g ∧ Below w.heap.size w w' := by
  have HI := Lib.hid hi
  have HR := Lib.hid hr
  obtain ⟨pi, qi, rfl⟩ := hi.lst.slice
  obtain ⟨pr, qr, rfl⟩ := hr.lst.slice
  have HIL := Lib.hid hil
  have HRL := Lib.hid hrl
  have HZ := Lib.hid hz
  have HW := Lib.hid hw
  have H10 := Lib.hid h10
  clear hi hr hil hrl hz hw h10
  have H1 := Lib.hid h1
  clear h1
  have ZI := Lib.hid HI.out.size
  have ZR := Lib.hid HR.out.size
  go_enter Tryd.func25, Tryd.ntmps25
  go_wp2_with fail
  have a1 : Below w.heap.size w ((w.alloc (.cells #[.string g.name, .int .i64 g.op, .slice pi g.ins.length qi, .slice pr g.rows.length qr, .bool g.off] 39)).alloc (.cells #[.string ⟨#[]⟩, .int .i64 0, .slice none 0 0, .slice none 0 0, .bool false] 39)) := (((Below.refl w.heap.size w).alloc (by first | exact Nat.le_refl _ | (simp only [World.size_alloc]; omega)) (.cells #[.string g.name, .int .i64 g.op, .slice pi g.ins.length qi, .slice pr g.rows.length qr, .bool g.off] 39)).alloc (by first | exact Nat.le_refl _ | (simp only [World.size_alloc]; omega)) (.cells #[.string ⟨#[]⟩, .int .i64 0, .slice none 0 0, .slice none 0 0, .bool false] 39))
  have T_new0 := ((Blk.new w #[.string g.name, .int .i64 g.op, .slice pi g.ins.length qi, .slice pr g.rows.length qr, .bool g.off] 39).alloc (.cells #[.string ⟨#[]⟩, .int .i64 0, .slice none 0 0, .slice none 0 0, .bool false] 39))
  have KT_00 := Lib.hid T_new0
  clear T_new0
  have Z_new0 := (Blk.new (w.alloc (.cells #[.string g.name, .int .i64 g.op, .slice pi g.ins.length qi, .slice pr g.rows.length qr, .bool g.off] 39)) #[.string ⟨#[]⟩, .int .i64 0, .slice none 0 0, .slice none 0 0, .bool false] 39)
  rw [World.size_alloc] at Z_new0
  have KZ_00 := Lib.hid Z_new0
  clear Z_new0
  have I_1 := Lib.hid (HI.out.below a1)
  clear HI
  have R_1 := Lib.hid (HR.out.below a1)
  clear HR
  have B_1 := Lib.hid a1
  clear a1
  generalize ((w.alloc (.cells #[.string g.name, .int .i64 g.op, .slice pi g.ins.length qi, .slice pr g.rows.length qr, .bool g.off] 39)).alloc (.cells #[.string ⟨#[]⟩, .int .i64 0, .slice none 0 0, .slice none 0 0, .bool false] 39)) = w1 at I_1 R_1 KT_00 KZ_00 B_1 ⊢
  have HLZ := Lib.hid KZ_00.out.lt
  have hd : Below w1.heap.size w1 w1.drew := (Below.refl _ _).drew
  have HS : Hid (∀ X : World, Below w1.heap.size w1 X → Blk X w.heap.size #[.string g.name, .int .i64 g.op, .slice pi g.ins.length qi, .slice pr g.rows.length qr, .bool g.off] 39) := Lib.hid fun X h => KT_00.out.below h KT_00.out.lt
  have kT := HS.out _ hd
  have x2 := kT.cell 2
  have x3 := kT.cell 3
  simp at x2 x3
  go_region_with (first | (go_at_call 56; (with_reducible refine (clone_any g.ins _ _ HIL.out (I_1.out.lst.below (by assumption)) I_1.out.nil).mono ?_); rintro e wa ⟨va, rfl, l2, hb⟩; have l2 := row_mono l2 (show w1.heap.size ≤ _ from Below.size (B := w1.heap.size) (by assumption)); have rB := chain (a := w1) hb (by assumption); have kT := HS.out _ rB; have x2 := kT.cell 2; have x3 := kT.cell 3; simp at x2 x3; obtain ⟨xb, xc, rfl⟩ := row_slice l2; clear hb) | (go_at_call 56; (with_reducible refine (clone_any g.rows _ _ HRL.out (R_1.out.lst.below (by assumption)) R_1.out.nil).mono ?_); rintro e wb ⟨vb, rfl, l3, hb⟩; have l3 := row_mono l3 (show w1.heap.size ≤ _ from Below.size (B := w1.heap.size) (by assumption)); have rB := chain (a := w1) hb (by assumption); have kT := HS.out _ rB; have x2 := kT.cell 2; have x3 := kT.cell 3; simp at x2 x3; have l4 := row_below l2 hb; have f2 := kT.frozen 2; have f3 := kT.frozen 3; obtain ⟨yb, yc, rfl⟩ := row_slice l3; clear hb))
  all_goals
    have hlt1 : w.heap.size < w1.heap.size := KT_00.out.lt
    have RI := Lib.hid (row_set (row_set l4 (p := ⟨w.heap.size, 2, none⟩) hlt1 (.slice xb g.ins.length xc)) (p := ⟨w.heap.size, 3, none⟩) hlt1 (.slice yb g.rows.length yc))
    have RR := Lib.hid (row_set (row_set l3 (p := ⟨w.heap.size, 2, none⟩) hlt1 (.slice xb g.ins.length xc)) (p := ⟨w.heap.size, 3, none⟩) hlt1 (.slice yb g.rows.length yc))
    have KT4 := Lib.hid (show Blk ((wb.setCell ⟨w.heap.size, 2, none⟩ (.slice xb g.ins.length xc)).setCell ⟨w.heap.size, 3, none⟩ (.slice yb g.rows.length yc)) w.heap.size #[.string g.name, .int .i64 g.op, .slice xb g.ins.length xc, .slice yb g.rows.length yc, .bool g.off] 39 from (kT.set 2 (.slice xb g.ins.length xc)).set 3 (.slice yb g.rows.length yc))
    have KZ4 := Lib.hid (((KZ_00.out.below rB KZ_00.out.lt).other (B' := w.heap.size) (by omega) 2 (.slice xb g.ins.length xc)).other (B' := w.heap.size) (by omega) 3 (.slice yb g.rows.length yc))
    have B4 := Lib.hid (((B_1.out.trans (rB.mono B_1.out.size)).setCell (p := ⟨w.heap.size, 2, none⟩) (Nat.le_refl _) (.slice xb g.ins.length xc)).setCell (p := ⟨w.heap.size, 3, none⟩) (Nat.le_refl _) (.slice yb g.rows.length yc))
    clear HS hd l2 l3 l4 f2 f3 kT x2 x3 rB hlt1 KT_00 KZ_00 B_1 I_1 R_1
    generalize ((wb.setCell ⟨w.heap.size, 2, none⟩ (.slice xb g.ins.length xc)).setCell ⟨w.heap.size, 3, none⟩ (.slice yb g.rows.length yc)) = w9 at RI RR KT4 KZ4 B4 ⊢
    have lT_0 : w.heap.size < w9.heap.size := KT4.out.lt
    have cT_0_0 : w9.cell? ⟨w.heap.size, 0, none⟩ = some (.string g.name) := KT4.out.cell 0
    have cT_1_0 : w9.cell? ⟨w.heap.size, 1, none⟩ = some (.int .i64 g.op) := KT4.out.cell 1
    have cT_2_0 : w9.cell? ⟨w.heap.size, 2, none⟩ = some (.slice xb g.ins.length xc) := KT4.out.cell 2
    have cT_3_0 : w9.cell? ⟨w.heap.size, 3, none⟩ = some (.slice yb g.rows.length yc) := KT4.out.cell 3
    have cT_4_0 : w9.cell? ⟨w.heap.size, 4, none⟩ = some (.bool g.off) := KT4.out.cell 4
    have lZ_0 : w.heap.size + 1 < w9.heap.size := KZ4.out.lt
    have cZ_0_0 : w9.cell? ⟨w.heap.size + 1, 0, none⟩ = some (.string ⟨#[]⟩) := KZ4.out.cell 0
    have cZ_1_0 : w9.cell? ⟨w.heap.size + 1, 1, none⟩ = some (.int .i64 0) := KZ4.out.cell 1
    have cZ_2_0 : w9.cell? ⟨w.heap.size + 1, 2, none⟩ = some (.slice none 0 0) := KZ4.out.cell 2
    have cZ_3_0 : w9.cell? ⟨w.heap.size + 1, 3, none⟩ = some (.slice none 0 0) := KZ4.out.cell 3
    have cZ_4_0 : w9.cell? ⟨w.heap.size + 1, 4, none⟩ = some (.bool false) := KZ4.out.cell 4
    have d10 : (g.op == 10) = false := by rw [beq_eq_false_iff_ne]; exact H10.out
    have e1 := H1.out
    have d1 : ((g.ins.length : Int) == 1) = false := by rw [beq_eq_false_iff_ne]; omega
    clear e1
    have f0 := KZ4.out.frozen 0
    have f1 := KZ4.out.frozen 1
    have f2 := KZ4.out.frozen 2
    have f3 := KZ4.out.frozen 3
    have f4 := KZ4.out.frozen 4
    have hltz := KZ4.out.lt
    have hltq : w.heap.size + 1 < w1.heap.size := HLZ.out
    have KE := Lib.hid (show Blk (((((w9.setCell ⟨w.heap.size + 1, 0, none⟩ (.string g.name)).setCell ⟨w.heap.size + 1, 1, none⟩ (.int .i64 g.op)).setCell ⟨w.heap.size + 1, 2, none⟩ (.slice xb g.ins.length xc)).setCell ⟨w.heap.size + 1, 3, none⟩ (.slice yb g.rows.length yc)).setCell ⟨w.heap.size + 1, 4, none⟩ (.bool g.off)) (w.heap.size + 1) #[.string g.name, .int .i64 g.op, .slice xb g.ins.length xc, .slice yb g.rows.length yc, .bool g.off] 39 from (((((KZ4.out.set 0 (.string g.name)).set 1 (.int .i64 g.op)).set 2 (.slice xb g.ins.length xc)).set 3 (.slice yb g.rows.length yc)).set 4 (.bool g.off)))
    have BE := Lib.hid (((((B4.out.setCell (p := ⟨w.heap.size + 1, 0, none⟩) (by show w.heap.size ≤ w.heap.size + 1; omega) (.string g.name)).setCell (p := ⟨w.heap.size + 1, 1, none⟩) (by show w.heap.size ≤ w.heap.size + 1; omega) (.int .i64 g.op)).setCell (p := ⟨w.heap.size + 1, 2, none⟩) (by show w.heap.size ≤ w.heap.size + 1; omega) (.slice xb g.ins.length xc)).setCell (p := ⟨w.heap.size + 1, 3, none⟩) (by show w.heap.size ≤ w.heap.size + 1; omega) (.slice yb g.rows.length yc)).setCell (p := ⟨w.heap.size + 1, 4, none⟩) (by show w.heap.size ≤ w.heap.size + 1; omega) (.bool g.off))
    have NI := Lib.hid (inn_row (row_set (row_set (row_set (row_set (row_set RI.out (p := ⟨w.heap.size + 1, 0, none⟩) hltq (.string g.name)) (p := ⟨w.heap.size + 1, 1, none⟩) hltq (.int .i64 g.op)) (p := ⟨w.heap.size + 1, 2, none⟩) hltq (.slice xb g.ins.length xc)) (p := ⟨w.heap.size + 1, 3, none⟩) hltq (.slice yb g.rows.length yc)) (p := ⟨w.heap.size + 1, 4, none⟩) hltq (.bool g.off)) (Nat.le_trans HIL.out (by unfold maxLen; omega)) ZI.out)
    have NR := Lib.hid (inn_row (row_set (row_set (row_set (row_set (row_set RR.out (p := ⟨w.heap.size + 1, 0, none⟩) hltq (.string g.name)) (p := ⟨w.heap.size + 1, 1, none⟩) hltq (.int .i64 g.op)) (p := ⟨w.heap.size + 1, 2, none⟩) hltq (.slice xb g.ins.length xc)) (p := ⟨w.heap.size + 1, 3, none⟩) hltq (.slice yb g.rows.length yc)) (p := ⟨w.heap.size + 1, 4, none⟩) hltq (.bool g.off)) (Nat.le_trans HRL.out (by unfold maxLen; omega)) ZR.out)
    go_wp2
    refine bodyPost_ret (results_cell_row rfl _ _ (w.heap.size + 1) 39 #[.string g.name, .int .i64 g.op, .slice xb g.ins.length xc, .slice yb g.rows.length yc, .bool g.off] (0, 0) _ rfl KE.out Tryd.underlying39 rfl (by kernel_rfl)) rfl ?_
    exact ⟨⟨g.name, g.op, .slice xb g.ins.length xc, .slice yb g.rows.length yc, g.off⟩, rfl, ⟨rfl, rfl, rfl, NI.out, NR.out, HZ.out, HW.out⟩, BE.out⟩

theorem canon_same2 (g : Gt) (vi vr : Value) (w : World) (hi : Inn w vi g.ins) (hr : Inn w vr g.rows) (hil : g.ins.length ≤ 100000) (hrl : g.rows.length ≤ 100000) (hz : g.name.size ≤ maxLen) (hw : (Lit.int .i64 g.op).wf = true) (h10 : ¬ g.op = 10) (h1 : g.ins.length = 1) (h2 : ¬ g.rows.length = 0) :
    Calls Tryd.prog 25 #[.agg #[.string g.name, .int .i64 g.op, vi, vr, .bool g.off]] w fun e w' => ∃ r : Gr, e = .returned (.agg #[.string r.name, .int .i64 r.op, r.vi, r.vr, .bool r.off]) ∧ GtAt w' r g ∧ Below w.heap.size w w' := by
  have HI := Lib.hid hi
  have HR := Lib.hid hr
  obtain ⟨pi, qi, rfl⟩ := hi.lst.slice
  obtain ⟨pr, qr, rfl⟩ := hr.lst.slice
  have HIL := Lib.hid hil
  have HRL := Lib.hid hrl
  have HZ := Lib.hid hz
  have HW := Lib.hid hw
  have H10 := Lib.hid h10
  clear hi hr hil hrl hz hw h10
  have H1 := Lib.hid h1
  clear h1
  have H2 := Lib.hid h2
  clear h2
  have ZI := Lib.hid HI.out.size
  have ZR := Lib.hid HR.out.size
  go_enter Tryd.func25, Tryd.ntmps25
  go_wp2_with fail
  have a1 : Below w.heap.size w ((w.alloc (.cells #[.string g.name, .int .i64 g.op, .slice pi g.ins.length qi, .slice pr g.rows.length qr, .bool g.off] 39)).alloc (.cells #[.string ⟨#[]⟩, .int .i64 0, .slice none 0 0, .slice none 0 0, .bool false] 39)) := (((Below.refl w.heap.size w).alloc (by first | exact Nat.le_refl _ | (simp only [World.size_alloc]; omega)) (.cells #[.string g.name, .int .i64 g.op, .slice pi g.ins.length qi, .slice pr g.rows.length qr, .bool g.off] 39)).alloc (by first | exact Nat.le_refl _ | (simp only [World.size_alloc]; omega)) (.cells #[.string ⟨#[]⟩, .int .i64 0, .slice none 0 0, .slice none 0 0, .bool false] 39))
  have T_new0 := ((Blk.new w #[.string g.name, .int .i64 g.op, .slice pi g.ins.length qi, .slice pr g.rows.length qr, .bool g.off] 39).alloc (.cells #[.string ⟨#[]⟩, .int .i64 0, .slice none 0 0, .slice none 0 0, .bool false] 39))
  have KT_00 := Lib.hid T_new0
  clear T_new0
  have Z_new0 := (Blk.new (w.alloc (.cells #[.string g.name, .int .i64 g.op, .slice pi g.ins.length qi, .slice pr g.rows.length qr, .bool g.off] 39)) #[.string ⟨#[]⟩, .int .i64 0, .slice none 0 0, .slice none 0 0, .bool false] 39)
  rw [World.size_alloc] at Z_new0
  have KZ_00 := Lib.hid Z_new0
  clear Z_new0
  have I_1 := Lib.hid (HI.out.below a1)
  clear HI
  have R_1 := Lib.hid (HR.out.below a1)
  clear HR
  have B_1 := Lib.hid a1
  clear a1
  generalize ((w.alloc (.cells #[.string g.name, .int .i64 g.op, .slice pi g.ins.length qi, .slice pr g.rows.length qr, .bool g.off] 39)).alloc (.cells #[.string ⟨#[]⟩, .int .i64 0, .slice none 0 0, .slice none 0 0, .bool false] 39)) = w1 at I_1 R_1 KT_00 KZ_00 B_1 ⊢
  have HLZ := Lib.hid KZ_00.out.lt
  have hd : Below w1.heap.size w1 w1.drew := (Below.refl _ _).drew
  have HS : Hid (∀ X : World, Below w1.heap.size w1 X → Blk X w.heap.size #[.string g.name, .int .i64 g.op, .slice pi g.ins.length qi, .slice pr g.rows.length qr, .bool g.off] 39) := Lib.hid fun X h => KT_00.out.below h KT_00.out.lt
  have kT := HS.out _ hd
  have x2 := kT.cell 2
  have x3 := kT.cell 3
  simp at x2 x3
  go_region_with (first | (go_at_call 56; (with_reducible refine (clone_any g.ins _ _ HIL.out (I_1.out.lst.below (by assumption)) I_1.out.nil).mono ?_); rintro e wa ⟨va, rfl, l2, hb⟩; have l2 := row_mono l2 (show w1.heap.size ≤ _ from Below.size (B := w1.heap.size) (by assumption)); have rB := chain (a := w1) hb (by assumption); have kT := HS.out _ rB; have x2 := kT.cell 2; have x3 := kT.cell 3; simp at x2 x3; obtain ⟨xb, xc, rfl⟩ := row_slice l2; clear hb) | (go_at_call 56; (with_reducible refine (clone_any g.rows _ _ HRL.out (R_1.out.lst.below (by assumption)) R_1.out.nil).mono ?_); rintro e wb ⟨vb, rfl, l3, hb⟩; have l3 := row_mono l3 (show w1.heap.size ≤ _ from Below.size (B := w1.heap.size) (by assumption)); have rB := chain (a := w1) hb (by assumption); have kT := HS.out _ rB; have x2 := kT.cell 2; have x3 := kT.cell 3; simp at x2 x3; have l4 := row_below l2 hb; have f2 := kT.frozen 2; have f3 := kT.frozen 3; obtain ⟨yb, yc, rfl⟩ := row_slice l3; clear hb))
  all_goals
    have hlt1 : w.heap.size < w1.heap.size := KT_00.out.lt
    have RI := Lib.hid (row_set (row_set l4 (p := ⟨w.heap.size, 2, none⟩) hlt1 (.slice xb g.ins.length xc)) (p := ⟨w.heap.size, 3, none⟩) hlt1 (.slice yb g.rows.length yc))
    have RR := Lib.hid (row_set (row_set l3 (p := ⟨w.heap.size, 2, none⟩) hlt1 (.slice xb g.ins.length xc)) (p := ⟨w.heap.size, 3, none⟩) hlt1 (.slice yb g.rows.length yc))
    have KT4 := Lib.hid (show Blk ((wb.setCell ⟨w.heap.size, 2, none⟩ (.slice xb g.ins.length xc)).setCell ⟨w.heap.size, 3, none⟩ (.slice yb g.rows.length yc)) w.heap.size #[.string g.name, .int .i64 g.op, .slice xb g.ins.length xc, .slice yb g.rows.length yc, .bool g.off] 39 from (kT.set 2 (.slice xb g.ins.length xc)).set 3 (.slice yb g.rows.length yc))
    have KZ4 := Lib.hid (((KZ_00.out.below rB KZ_00.out.lt).other (B' := w.heap.size) (by omega) 2 (.slice xb g.ins.length xc)).other (B' := w.heap.size) (by omega) 3 (.slice yb g.rows.length yc))
    have B4 := Lib.hid (((B_1.out.trans (rB.mono B_1.out.size)).setCell (p := ⟨w.heap.size, 2, none⟩) (Nat.le_refl _) (.slice xb g.ins.length xc)).setCell (p := ⟨w.heap.size, 3, none⟩) (Nat.le_refl _) (.slice yb g.rows.length yc))
    clear HS hd l2 l3 l4 f2 f3 kT x2 x3 rB hlt1 KT_00 KZ_00 B_1 I_1 R_1
    generalize ((wb.setCell ⟨w.heap.size, 2, none⟩ (.slice xb g.ins.length xc)).setCell ⟨w.heap.size, 3, none⟩ (.slice yb g.rows.length yc)) = w9 at RI RR KT4 KZ4 B4 ⊢
    have lT_0 : w.heap.size < w9.heap.size := KT4.out.lt
    have cT_0_0 : w9.cell? ⟨w.heap.size, 0, none⟩ = some (.string g.name) := KT4.out.cell 0
    have cT_1_0 : w9.cell? ⟨w.heap.size, 1, none⟩ = some (.int .i64 g.op) := KT4.out.cell 1
    have cT_2_0 : w9.cell? ⟨w.heap.size, 2, none⟩ = some (.slice xb g.ins.length xc) := KT4.out.cell 2
    have cT_3_0 : w9.cell? ⟨w.heap.size, 3, none⟩ = some (.slice yb g.rows.length yc) := KT4.out.cell 3
    have cT_4_0 : w9.cell? ⟨w.heap.size, 4, none⟩ = some (.bool g.off) := KT4.out.cell 4
    have lZ_0 : w.heap.size + 1 < w9.heap.size := KZ4.out.lt
    have cZ_0_0 : w9.cell? ⟨w.heap.size + 1, 0, none⟩ = some (.string ⟨#[]⟩) := KZ4.out.cell 0
    have cZ_1_0 : w9.cell? ⟨w.heap.size + 1, 1, none⟩ = some (.int .i64 0) := KZ4.out.cell 1
    have cZ_2_0 : w9.cell? ⟨w.heap.size + 1, 2, none⟩ = some (.slice none 0 0) := KZ4.out.cell 2
    have cZ_3_0 : w9.cell? ⟨w.heap.size + 1, 3, none⟩ = some (.slice none 0 0) := KZ4.out.cell 3
    have cZ_4_0 : w9.cell? ⟨w.heap.size + 1, 4, none⟩ = some (.bool false) := KZ4.out.cell 4
    have d10 : (g.op == 10) = false := by rw [beq_eq_false_iff_ne]; exact H10.out
    have e1 := H1.out
    have e2 := H2.out
    have d1 : ((g.ins.length : Int) == 1) = true := by rw [beq_iff_eq]; omega
    have d2 : ((g.rows.length : Int) == 0) = false := by rw [beq_eq_false_iff_ne]; omega
    clear e1 e2
    have f0 := KZ4.out.frozen 0
    have f1 := KZ4.out.frozen 1
    have f2 := KZ4.out.frozen 2
    have f3 := KZ4.out.frozen 3
    have f4 := KZ4.out.frozen 4
    have hltz := KZ4.out.lt
    have hltq : w.heap.size + 1 < w1.heap.size := HLZ.out
    have KE := Lib.hid (show Blk (((((w9.setCell ⟨w.heap.size + 1, 0, none⟩ (.string g.name)).setCell ⟨w.heap.size + 1, 1, none⟩ (.int .i64 g.op)).setCell ⟨w.heap.size + 1, 2, none⟩ (.slice xb g.ins.length xc)).setCell ⟨w.heap.size + 1, 3, none⟩ (.slice yb g.rows.length yc)).setCell ⟨w.heap.size + 1, 4, none⟩ (.bool g.off)) (w.heap.size + 1) #[.string g.name, .int .i64 g.op, .slice xb g.ins.length xc, .slice yb g.rows.length yc, .bool g.off] 39 from (((((KZ4.out.set 0 (.string g.name)).set 1 (.int .i64 g.op)).set 2 (.slice xb g.ins.length xc)).set 3 (.slice yb g.rows.length yc)).set 4 (.bool g.off)))
    have BE := Lib.hid (((((B4.out.setCell (p := ⟨w.heap.size + 1, 0, none⟩) (by show w.heap.size ≤ w.heap.size + 1; omega) (.string g.name)).setCell (p := ⟨w.heap.size + 1, 1, none⟩) (by show w.heap.size ≤ w.heap.size + 1; omega) (.int .i64 g.op)).setCell (p := ⟨w.heap.size + 1, 2, none⟩) (by show w.heap.size ≤ w.heap.size + 1; omega) (.slice xb g.ins.length xc)).setCell (p := ⟨w.heap.size + 1, 3, none⟩) (by show w.heap.size ≤ w.heap.size + 1; omega) (.slice yb g.rows.length yc)).setCell (p := ⟨w.heap.size + 1, 4, none⟩) (by show w.heap.size ≤ w.heap.size + 1; omega) (.bool g.off))
    have NI := Lib.hid (inn_row (row_set (row_set (row_set (row_set (row_set RI.out (p := ⟨w.heap.size + 1, 0, none⟩) hltq (.string g.name)) (p := ⟨w.heap.size + 1, 1, none⟩) hltq (.int .i64 g.op)) (p := ⟨w.heap.size + 1, 2, none⟩) hltq (.slice xb g.ins.length xc)) (p := ⟨w.heap.size + 1, 3, none⟩) hltq (.slice yb g.rows.length yc)) (p := ⟨w.heap.size + 1, 4, none⟩) hltq (.bool g.off)) (Nat.le_trans HIL.out (by unfold maxLen; omega)) ZI.out)
    have NR := Lib.hid (inn_row (row_set (row_set (row_set (row_set (row_set RR.out (p := ⟨w.heap.size + 1, 0, none⟩) hltq (.string g.name)) (p := ⟨w.heap.size + 1, 1, none⟩) hltq (.int .i64 g.op)) (p := ⟨w.heap.size + 1, 2, none⟩) hltq (.slice xb g.ins.length xc)) (p := ⟨w.heap.size + 1, 3, none⟩) hltq (.slice yb g.rows.length yc)) (p := ⟨w.heap.size + 1, 4, none⟩) hltq (.bool g.off)) (Nat.le_trans HRL.out (by unfold maxLen; omega)) ZR.out)
    go_wp2
    refine bodyPost_ret (results_cell_row rfl _ _ (w.heap.size + 1) 39 #[.string g.name, .int .i64 g.op, .slice xb g.ins.length xc, .slice yb g.rows.length yc, .bool g.off] (0, 0) _ rfl KE.out Tryd.underlying39 rfl (by kernel_rfl)) rfl ?_
    exact ⟨⟨g.name, g.op, .slice xb g.ins.length xc, .slice yb g.rows.length yc, g.off⟩, rfl, ⟨rfl, rfl, rfl, NI.out, NR.out, HZ.out, HW.out⟩, BE.out⟩

theorem canon_same3 (g : Gt) (vi vr : Value) (w : World) (hi : Inn w vi g.ins) (hr : Inn w vr g.rows) (hil : g.ins.length ≤ 100000) (hrl : g.rows.length ≤ 100000) (hz : g.name.size ≤ maxLen) (hw : (Lit.int .i64 g.op).wf = true) (h10 : ¬ g.op = 10) (h1 : g.ins.length = 1) (h2 : g.rows.length = 0) (h3 : g.off = true) :
    Calls Tryd.prog 25 #[.agg #[.string g.name, .int .i64 g.op, vi, vr, .bool true]] w fun e w' => ∃ r : Gr, e = .returned (.agg #[.string r.name, .int .i64 r.op, r.vi, r.vr, .bool r.off]) ∧ GtAt w' r g ∧ Below w.heap.size w w' := by
  have HI := Lib.hid hi
  have HR := Lib.hid hr
  obtain ⟨pi, qi, rfl⟩ := hi.lst.slice
  obtain ⟨pr, qr, rfl⟩ := hr.lst.slice
  have HIL := Lib.hid hil
  have HRL := Lib.hid hrl
  have HZ := Lib.hid hz
  have HW := Lib.hid hw
  have H10 := Lib.hid h10
  clear hi hr hil hrl hz hw h10
  have H1 := Lib.hid h1
  clear h1
  have H2 := Lib.hid h2
  clear h2
  have H3 := Lib.hid h3
  clear h3
  have ZI := Lib.hid HI.out.size
  have ZR := Lib.hid HR.out.size
  go_enter Tryd.func25, Tryd.ntmps25
  go_wp2_with fail
  have a1 : Below w.heap.size w ((w.alloc (.cells #[.string g.name, .int .i64 g.op, .slice pi g.ins.length qi, .slice pr g.rows.length qr, .bool true] 39)).alloc (.cells #[.string ⟨#[]⟩, .int .i64 0, .slice none 0 0, .slice none 0 0, .bool false] 39)) := (((Below.refl w.heap.size w).alloc (by first | exact Nat.le_refl _ | (simp only [World.size_alloc]; omega)) (.cells #[.string g.name, .int .i64 g.op, .slice pi g.ins.length qi, .slice pr g.rows.length qr, .bool true] 39)).alloc (by first | exact Nat.le_refl _ | (simp only [World.size_alloc]; omega)) (.cells #[.string ⟨#[]⟩, .int .i64 0, .slice none 0 0, .slice none 0 0, .bool false] 39))
  have T_new0 := ((Blk.new w #[.string g.name, .int .i64 g.op, .slice pi g.ins.length qi, .slice pr g.rows.length qr, .bool true] 39).alloc (.cells #[.string ⟨#[]⟩, .int .i64 0, .slice none 0 0, .slice none 0 0, .bool false] 39))
  have KT_00 := Lib.hid T_new0
  clear T_new0
  have Z_new0 := (Blk.new (w.alloc (.cells #[.string g.name, .int .i64 g.op, .slice pi g.ins.length qi, .slice pr g.rows.length qr, .bool true] 39)) #[.string ⟨#[]⟩, .int .i64 0, .slice none 0 0, .slice none 0 0, .bool false] 39)
  rw [World.size_alloc] at Z_new0
  have KZ_00 := Lib.hid Z_new0
  clear Z_new0
  have I_1 := Lib.hid (HI.out.below a1)
  clear HI
  have R_1 := Lib.hid (HR.out.below a1)
  clear HR
  have B_1 := Lib.hid a1
  clear a1
  generalize ((w.alloc (.cells #[.string g.name, .int .i64 g.op, .slice pi g.ins.length qi, .slice pr g.rows.length qr, .bool true] 39)).alloc (.cells #[.string ⟨#[]⟩, .int .i64 0, .slice none 0 0, .slice none 0 0, .bool false] 39)) = w1 at I_1 R_1 KT_00 KZ_00 B_1 ⊢
  have HLZ := Lib.hid KZ_00.out.lt
  have hd : Below w1.heap.size w1 w1.drew := (Below.refl _ _).drew
  have HS : Hid (∀ X : World, Below w1.heap.size w1 X → Blk X w.heap.size #[.string g.name, .int .i64 g.op, .slice pi g.ins.length qi, .slice pr g.rows.length qr, .bool true] 39) := Lib.hid fun X h => KT_00.out.below h KT_00.out.lt
  have kT := HS.out _ hd
  have x2 := kT.cell 2
  have x3 := kT.cell 3
  simp at x2 x3
  go_region_with (first | (go_at_call 56; (with_reducible refine (clone_any g.ins _ _ HIL.out (I_1.out.lst.below (by assumption)) I_1.out.nil).mono ?_); rintro e wa ⟨va, rfl, l2, hb⟩; have l2 := row_mono l2 (show w1.heap.size ≤ _ from Below.size (B := w1.heap.size) (by assumption)); have rB := chain (a := w1) hb (by assumption); have kT := HS.out _ rB; have x2 := kT.cell 2; have x3 := kT.cell 3; simp at x2 x3; obtain ⟨xb, xc, rfl⟩ := row_slice l2; clear hb) | (go_at_call 56; (with_reducible refine (clone_any g.rows _ _ HRL.out (R_1.out.lst.below (by assumption)) R_1.out.nil).mono ?_); rintro e wb ⟨vb, rfl, l3, hb⟩; have l3 := row_mono l3 (show w1.heap.size ≤ _ from Below.size (B := w1.heap.size) (by assumption)); have rB := chain (a := w1) hb (by assumption); have kT := HS.out _ rB; have x2 := kT.cell 2; have x3 := kT.cell 3; simp at x2 x3; have l4 := row_below l2 hb; have f2 := kT.frozen 2; have f3 := kT.frozen 3; obtain ⟨yb, yc, rfl⟩ := row_slice l3; clear hb))
  all_goals
    have hlt1 : w.heap.size < w1.heap.size := KT_00.out.lt
    have RI := Lib.hid (row_set (row_set l4 (p := ⟨w.heap.size, 2, none⟩) hlt1 (.slice xb g.ins.length xc)) (p := ⟨w.heap.size, 3, none⟩) hlt1 (.slice yb g.rows.length yc))
    have RR := Lib.hid (row_set (row_set l3 (p := ⟨w.heap.size, 2, none⟩) hlt1 (.slice xb g.ins.length xc)) (p := ⟨w.heap.size, 3, none⟩) hlt1 (.slice yb g.rows.length yc))
    have KT4 := Lib.hid (show Blk ((wb.setCell ⟨w.heap.size, 2, none⟩ (.slice xb g.ins.length xc)).setCell ⟨w.heap.size, 3, none⟩ (.slice yb g.rows.length yc)) w.heap.size #[.string g.name, .int .i64 g.op, .slice xb g.ins.length xc, .slice yb g.rows.length yc, .bool true] 39 from (kT.set 2 (.slice xb g.ins.length xc)).set 3 (.slice yb g.rows.length yc))
    have KZ4 := Lib.hid (((KZ_00.out.below rB KZ_00.out.lt).other (B' := w.heap.size) (by omega) 2 (.slice xb g.ins.length xc)).other (B' := w.heap.size) (by omega) 3 (.slice yb g.rows.length yc))
    have B4 := Lib.hid (((B_1.out.trans (rB.mono B_1.out.size)).setCell (p := ⟨w.heap.size, 2, none⟩) (Nat.le_refl _) (.slice xb g.ins.length xc)).setCell (p := ⟨w.heap.size, 3, none⟩) (Nat.le_refl _) (.slice yb g.rows.length yc))
    clear HS hd l2 l3 l4 f2 f3 kT x2 x3 rB hlt1 KT_00 KZ_00 B_1 I_1 R_1
    generalize ((wb.setCell ⟨w.heap.size, 2, none⟩ (.slice xb g.ins.length xc)).setCell ⟨w.heap.size, 3, none⟩ (.slice yb g.rows.length yc)) = w9 at RI RR KT4 KZ4 B4 ⊢
    have lT_0 : w.heap.size < w9.heap.size := KT4.out.lt
    have cT_0_0 : w9.cell? ⟨w.heap.size, 0, none⟩ = some (.string g.name) := KT4.out.cell 0
    have cT_1_0 : w9.cell? ⟨w.heap.size, 1, none⟩ = some (.int .i64 g.op) := KT4.out.cell 1
    have cT_2_0 : w9.cell? ⟨w.heap.size, 2, none⟩ = some (.slice xb g.ins.length xc) := KT4.out.cell 2
    have cT_3_0 : w9.cell? ⟨w.heap.size, 3, none⟩ = some (.slice yb g.rows.length yc) := KT4.out.cell 3
    have cT_4_0 : w9.cell? ⟨w.heap.size, 4, none⟩ = some (.bool true) := KT4.out.cell 4
    have lZ_0 : w.heap.size + 1 < w9.heap.size := KZ4.out.lt
    have cZ_0_0 : w9.cell? ⟨w.heap.size + 1, 0, none⟩ = some (.string ⟨#[]⟩) := KZ4.out.cell 0
    have cZ_1_0 : w9.cell? ⟨w.heap.size + 1, 1, none⟩ = some (.int .i64 0) := KZ4.out.cell 1
    have cZ_2_0 : w9.cell? ⟨w.heap.size + 1, 2, none⟩ = some (.slice none 0 0) := KZ4.out.cell 2
    have cZ_3_0 : w9.cell? ⟨w.heap.size + 1, 3, none⟩ = some (.slice none 0 0) := KZ4.out.cell 3
    have cZ_4_0 : w9.cell? ⟨w.heap.size + 1, 4, none⟩ = some (.bool false) := KZ4.out.cell 4
    have d10 : (g.op == 10) = false := by rw [beq_eq_false_iff_ne]; exact H10.out
    have e1 := H1.out
    have e2 := H2.out
    have d1 : ((g.ins.length : Int) == 1) = true := by rw [beq_iff_eq]; omega
    have d2 : ((g.rows.length : Int) == 0) = true := by rw [beq_iff_eq]; omega
    clear e1 e2
    have f0 := KZ4.out.frozen 0
    have f1 := KZ4.out.frozen 1
    have f2 := KZ4.out.frozen 2
    have f3 := KZ4.out.frozen 3
    have f4 := KZ4.out.frozen 4
    have hltz := KZ4.out.lt
    have hltq : w.heap.size + 1 < w1.heap.size := HLZ.out
    have KE := Lib.hid (show Blk (((((w9.setCell ⟨w.heap.size + 1, 0, none⟩ (.string g.name)).setCell ⟨w.heap.size + 1, 1, none⟩ (.int .i64 g.op)).setCell ⟨w.heap.size + 1, 2, none⟩ (.slice xb g.ins.length xc)).setCell ⟨w.heap.size + 1, 3, none⟩ (.slice yb g.rows.length yc)).setCell ⟨w.heap.size + 1, 4, none⟩ (.bool true)) (w.heap.size + 1) #[.string g.name, .int .i64 g.op, .slice xb g.ins.length xc, .slice yb g.rows.length yc, .bool true] 39 from (((((KZ4.out.set 0 (.string g.name)).set 1 (.int .i64 g.op)).set 2 (.slice xb g.ins.length xc)).set 3 (.slice yb g.rows.length yc)).set 4 (.bool true)))
    have BE := Lib.hid (((((B4.out.setCell (p := ⟨w.heap.size + 1, 0, none⟩) (by show w.heap.size ≤ w.heap.size + 1; omega) (.string g.name)).setCell (p := ⟨w.heap.size + 1, 1, none⟩) (by show w.heap.size ≤ w.heap.size + 1; omega) (.int .i64 g.op)).setCell (p := ⟨w.heap.size + 1, 2, none⟩) (by show w.heap.size ≤ w.heap.size + 1; omega) (.slice xb g.ins.length xc)).setCell (p := ⟨w.heap.size + 1, 3, none⟩) (by show w.heap.size ≤ w.heap.size + 1; omega) (.slice yb g.rows.length yc)).setCell (p := ⟨w.heap.size + 1, 4, none⟩) (by show w.heap.size ≤ w.heap.size + 1; omega) (.bool true))
    have NI := Lib.hid (inn_row (row_set (row_set (row_set (row_set (row_set RI.out (p := ⟨w.heap.size + 1, 0, none⟩) hltq (.string g.name)) (p := ⟨w.heap.size + 1, 1, none⟩) hltq (.int .i64 g.op)) (p := ⟨w.heap.size + 1, 2, none⟩) hltq (.slice xb g.ins.length xc)) (p := ⟨w.heap.size + 1, 3, none⟩) hltq (.slice yb g.rows.length yc)) (p := ⟨w.heap.size + 1, 4, none⟩) hltq (.bool true)) (Nat.le_trans HIL.out (by unfold maxLen; omega)) ZI.out)
    have NR := Lib.hid (inn_row (row_set (row_set (row_set (row_set (row_set RR.out (p := ⟨w.heap.size + 1, 0, none⟩) hltq (.string g.name)) (p := ⟨w.heap.size + 1, 1, none⟩) hltq (.int .i64 g.op)) (p := ⟨w.heap.size + 1, 2, none⟩) hltq (.slice xb g.ins.length xc)) (p := ⟨w.heap.size + 1, 3, none⟩) hltq (.slice yb g.rows.length yc)) (p := ⟨w.heap.size + 1, 4, none⟩) hltq (.bool true)) (Nat.le_trans HRL.out (by unfold maxLen; omega)) ZR.out)
    go_wp2
    refine bodyPost_ret (results_cell_row rfl _ _ (w.heap.size + 1) 39 #[.string g.name, .int .i64 g.op, .slice xb g.ins.length xc, .slice yb g.rows.length yc, .bool true] (0, 0) _ rfl KE.out Tryd.underlying39 rfl (by kernel_rfl)) rfl ?_
    exact ⟨⟨g.name, g.op, .slice xb g.ins.length xc, .slice yb g.rows.length yc, true⟩, rfl, ⟨rfl, rfl, H3.out.symm, NI.out, NR.out, HZ.out, HW.out⟩, BE.out⟩
end Go.Proofs.YtfkmolbcgnkfdaaDoor
