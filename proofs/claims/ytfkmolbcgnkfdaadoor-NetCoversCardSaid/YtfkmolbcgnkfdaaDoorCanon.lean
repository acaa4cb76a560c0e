/- A gate in one way. -/
import Derived.Test.YtfkmolbcgnkfdaaDoorOpOf
import Derived.Test.YtfkmolbcgnkfdaaDoorCov
import Derived.Deep.RegionHeld3
namespace Go.Proofs.YtfkmolbcgnkfdaaDoor
open Go.RowKit
attribute [local go_sem] Oper.semAt_some
set_option maxRecDepth 100000
set_option maxHeartbeats 8000000
def canonF (g : Gt) : Gt :=
  if g.op = 10 then (if (opC g).2 = true then ⟨g.name, (opC g).1, g.ins, [], false⟩ else g)
  else if g.ins.length = 1 ∧ g.rows.length = 0 ∧ g.off = false then ⟨g.name, oneF g.op, g.ins, g.rows, g.off⟩ else g
theorem inn_row {W : World} {B : Nat} {v : Value} {l : List ByteArray} (h : W.ownsRow B 9 1 v l.length (l.flatMap stc)) (hl : l.length ≤ maxLen) (hz : ∀ x ∈ l, x.size ≤ maxLen) : Inn W v l := ⟨Lst.of_row h, hl, hz, nilFine_row h, capFine_row h⟩
theorem opOf_ex (g : Gt) (vi vr : Value) (o : Int) (b : Bool) (w : World) (hi : Inn w vi g.ins) (hr : Inn w vr g.rows) (hrl : g.rows.length ≤ 100000) (hq : opC g = (o, b)) (of : Bool) (ho : g.off = of) (op : Int) (hop : g.op = op) :
    Calls Tryd.prog 62 #[.agg #[.string g.name, .int .i64 op, vi, vr, .bool of]] w fun e w' => e = .returned (.tuple #[.int .i64 o, .bool b]) ∧ Below w.heap.size w w' := by
  subst ho hop
  exact opOfCover_any g vi vr o b w hi hr hrl hq
theorem opC_wf (g : Gt) : (Lit.int .i64 (opC g).1).wf = true := by
  unfold opC
  split
  · rename_i k h
    have := (List.find?_range_eq_some.1 h).2.1
    exact wf_small (List.mem_range.1 this)
  · decide
theorem oneF_wf {o : Int} (h : (Lit.int .i64 o).wf = true) : (Lit.int .i64 (oneF o)).wf = true := by
  unfold oneF
  split
  · decide
  · split
    · decide
    · exact h

theorem canon_ok (g : Gt) (vi vr : Value) (o : Int) (w : World) (hi : Inn w vi g.ins) (hr : Inn w vr g.rows) (hil : g.ins.length ≤ 100000) (hrl : g.rows.length ≤ 100000) (hz : g.name.size ≤ maxLen) (hw : (Lit.int .i64 g.op).wf = true) (h10 : g.op = 10) (hq : opC g = (o, true)) :
    Calls Tryd.prog 25 #[.agg #[.string g.name, .int .i64 g.op, vi, vr, .bool g.off]] w fun e w' => ∃ r : Gr, e = .returned (.agg #[.string r.name, .int .i64 r.op, r.vi, r.vr, .bool r.off]) ∧ GtAt w' r ⟨g.name, o, g.ins, [], false⟩ ∧ Below w.heap.size w w' := by
  have HI := Lib.hid hi
  have HR := Lib.hid hr
  obtain ⟨pi, qi, rfl⟩ := hi.lst.slice
  obtain ⟨pr, qr, rfl⟩ := hr.lst.slice
  have HIL := Lib.hid hil
  have HRL := Lib.hid hrl
  have HZ := Lib.hid hz
  have HW := Lib.hid hw
  have H10 := Lib.hid h10
  clear hi hr hil hrl hz hw h10
  have HQ := Lib.hid hq
  clear hq
  have ZI := Lib.hid HI.out.size
  have ZR := Lib.hid HR.out.size
  go_enter Tryd.func25, Tryd.ntmps25
  go_wp2_with fail
  have a1 : Below w.heap.size w ((w.alloc (.cells #[.string g.name, .int .i64 g.op, .slice pi g.ins.length qi, .slice pr g.rows.length qr, .bool g.off] 39)).alloc (.cells #[.string ⟨#[]⟩, .int .i64 0, .slice none 0 0, .slice none 0 0, .bool false] 39)) := (((Below.refl w.heap.size w).alloc (by first | exact Nat.le_refl _ | (simp only [World.size_alloc]; omega)) (.cells #[.string g.name, .int .i64 g.op, .slice pi g.ins.length qi, .slice pr g.rows.length qr, .bool g.off] 39)).alloc (by first | exact Nat.le_refl _ | (simp only [World.size_alloc]; omega)) (.cells #[.string ⟨#[]⟩, .int .i64 0, .slice none 0 0, .slice none 0 0, .bool false] 39))
  have T_new0 := ((Blk.new w #[.string g.name, .int .i64 g.op, .slice pi g.ins.length qi, .slice pr g.rows.length qr, .bool g.off] 39).alloc (.cells #[.string ⟨#[]⟩, .int .i64 0, .slice none 0 0, .slice none 0 0, .bool false] 39))
  have KT_00 := Lib.hid T_new0
  clear T_new0
  have Z_new0 := (Blk.new (w.alloc (.cells #[.string g.name, .int .i64 g.op, .slice pi g.ins.length qi, .slice pr g.rows.length qr, .bool g.off] 39)) #[.string ⟨#[]⟩, .int .i64 0, .slice none 0 0, .slice none 0 0, .bool false] 39)
  rw [World.size_alloc] at Z_new0
  have KZ_00 := Lib.hid Z_new0
  clear Z_new0
  have I_1 := Lib.hid (HI.out.below a1)
  clear HI
  have R_1 := Lib.hid (HR.out.below a1)
  clear HR
  have B_1 := Lib.hid a1
  clear a1
  generalize ((w.alloc (.cells #[.string g.name, .int .i64 g.op, .slice pi g.ins.length qi, .slice pr g.rows.length qr, .bool g.off] 39)).alloc (.cells #[.string ⟨#[]⟩, .int .i64 0, .slice none 0 0, .slice none 0 0, .bool false] 39)) = w1 at I_1 R_1 KT_00 KZ_00 B_1 ⊢
  have HLZ := Lib.hid KZ_00.out.lt
  have hd : Below w1.heap.size w1 w1.drew := (Below.refl _ _).drew
  have HS : Hid (∀ X : World, Below w1.heap.size w1 X → Blk X w.heap.size #[.string g.name, .int .i64 g.op, .slice pi g.ins.length qi, .slice pr g.rows.length qr, .bool g.off] 39) := Lib.hid fun X h => KT_00.out.below h KT_00.out.lt
  have kT := HS.out _ hd
  have x2 := kT.cell 2
  have x3 := kT.cell 3
  simp at x2 x3
  go_region_with (first | (go_at_call 56; (with_reducible refine (clone_any g.ins _ _ HIL.out (I_1.out.lst.below (by assumption)) I_1.out.nil).mono ?_); rintro e wa ⟨va, rfl, l2, hb⟩; have l2 := row_mono l2 (show w1.heap.size ≤ _ from Below.size (B := w1.heap.size) (by assumption)); have rB := chain (a := w1) hb (by assumption); have kT := HS.out _ rB; have x2 := kT.cell 2; have x3 := kT.cell 3; simp at x2 x3; obtain ⟨xb, xc, rfl⟩ := row_slice l2; clear hb) | (go_at_call 56; (with_reducible refine (clone_any g.rows _ _ HRL.out (R_1.out.lst.below (by assumption)) R_1.out.nil).mono ?_); rintro e wb ⟨vb, rfl, l3, hb⟩; have l3 := row_mono l3 (show w1.heap.size ≤ _ from Below.size (B := w1.heap.size) (by assumption)); have rB := chain (a := w1) hb (by assumption); have kT := HS.out _ rB; have x2 := kT.cell 2; have x3 := kT.cell 3; simp at x2 x3; have l4 := row_below l2 hb; have f2 := kT.frozen 2; have f3 := kT.frozen 3; obtain ⟨yb, yc, rfl⟩ := row_slice l3; clear hb))
  all_goals
    have hlt1 : w.heap.size < w1.heap.size := KT_00.out.lt
    have RI := Lib.hid (row_set (row_set l4 (p := ⟨w.heap.size, 2, none⟩) hlt1 (.slice xb g.ins.length xc)) (p := ⟨w.heap.size, 3, none⟩) hlt1 (.slice yb g.rows.length yc))
    have RR := Lib.hid (row_set (row_set l3 (p := ⟨w.heap.size, 2, none⟩) hlt1 (.slice xb g.ins.length xc)) (p := ⟨w.heap.size, 3, none⟩) hlt1 (.slice yb g.rows.length yc))
    have KT4 := Lib.hid (show Blk ((wb.setCell ⟨w.heap.size, 2, none⟩ (.slice xb g.ins.length xc)).setCell ⟨w.heap.size, 3, none⟩ (.slice yb g.rows.length yc)) w.heap.size #[.string g.name, .int .i64 g.op, .slice xb g.ins.length xc, .slice yb g.rows.length yc, .bool g.off] 39 from (kT.set 2 (.slice xb g.ins.length xc)).set 3 (.slice yb g.rows.length yc))
    have KZ4 := Lib.hid (((KZ_00.out.below rB KZ_00.out.lt).other (B' := w.heap.size) (by omega) 2 (.slice xb g.ins.length xc)).other (B' := w.heap.size) (by omega) 3 (.slice yb g.rows.length yc))
    have B4 := Lib.hid (((B_1.out.trans (rB.mono B_1.out.size)).setCell (p := ⟨w.heap.size, 2, none⟩) (Nat.le_refl _) (.slice xb g.ins.length xc)).setCell (p := ⟨w.heap.size, 3, none⟩) (Nat.le_refl _) (.slice yb g.rows.length yc))
    clear HS hd l2 l3 l4 f2 f3 kT x2 x3 rB hlt1 KT_00 KZ_00 B_1 I_1 R_1
    generalize ((wb.setCell ⟨w.heap.size, 2, none⟩ (.slice xb g.ins.length xc)).setCell ⟨w.heap.size, 3, none⟩ (.slice yb g.rows.length yc)) = w9 at RI RR KT4 KZ4 B4 ⊢
    have lT_0 : w.heap.size < w9.heap.size := KT4.out.lt
    have cT_0_0 : w9.cell? ⟨w.heap.size, 0, none⟩ = some (.string g.name) := KT4.out.cell 0
    have cT_1_0 : w9.cell? ⟨w.heap.size, 1, none⟩ = some (.int .i64 g.op) := KT4.out.cell 1
    have cT_2_0 : w9.cell? ⟨w.heap.size, 2, none⟩ = some (.slice xb g.ins.length xc) := KT4.out.cell 2
    have cT_3_0 : w9.cell? ⟨w.heap.size, 3, none⟩ = some (.slice yb g.rows.length yc) := KT4.out.cell 3
    have cT_4_0 : w9.cell? ⟨w.heap.size, 4, none⟩ = some (.bool g.off) := KT4.out.cell 4
    have lZ_0 : w.heap.size + 1 < w9.heap.size := KZ4.out.lt
    have cZ_0_0 : w9.cell? ⟨w.heap.size + 1, 0, none⟩ = some (.string ⟨#[]⟩) := KZ4.out.cell 0
    have cZ_1_0 : w9.cell? ⟨w.heap.size + 1, 1, none⟩ = some (.int .i64 0) := KZ4.out.cell 1
    have cZ_2_0 : w9.cell? ⟨w.heap.size + 1, 2, none⟩ = some (.slice none 0 0) := KZ4.out.cell 2
    have cZ_3_0 : w9.cell? ⟨w.heap.size + 1, 3, none⟩ = some (.slice none 0 0) := KZ4.out.cell 3
    have cZ_4_0 : w9.cell? ⟨w.heap.size + 1, 4, none⟩ = some (.bool false) := KZ4.out.cell 4
    have d10 : (g.op == 10) = true := by rw [H10.out]; rfl
    go_wp2_with fail
    clear lT_0 cT_0_0 cT_1_0 cT_2_0 cT_3_0 cT_4_0 lZ_0 cZ_0_0 cZ_1_0 cZ_2_0 cZ_3_0 cZ_4_0
    refine (opOf_ex g _ _ o true _ (inn_row RI.out (Nat.le_trans HIL.out (by unfold maxLen; omega)) ZI.out) (inn_row RR.out (Nat.le_trans HRL.out (by unfold maxLen; omega)) ZR.out) HRL.out HQ.out g.off rfl g.op rfl).mono ?_
    rintro e w91 ⟨rfl, b1⟩
    have RI_1 := Lib.hid (row_below RI.out b1)
    clear RI
    have RR_1 := Lib.hid (row_below RR.out b1)
    clear RR
    have KT_1 := Lib.hid (KT4.out.below b1 KT4.out.lt)
    clear KT4
    have KZ_1 := Lib.hid (KZ4.out.below b1 KZ4.out.lt)
    clear KZ4
    have B_1 := Lib.hid (B4.out.trans (b1.mono B4.out.size))
    clear B4
    clear b1
    have lT_1 : w.heap.size < w91.heap.size := KT_1.out.lt
    have cT_0_1 : w91.cell? ⟨w.heap.size, 0, none⟩ = some (.string g.name) := KT_1.out.cell 0
    have cT_1_1 : w91.cell? ⟨w.heap.size, 1, none⟩ = some (.int .i64 g.op) := KT_1.out.cell 1
    have cT_2_1 : w91.cell? ⟨w.heap.size, 2, none⟩ = some (.slice xb g.ins.length xc) := KT_1.out.cell 2
    have cT_3_1 : w91.cell? ⟨w.heap.size, 3, none⟩ = some (.slice yb g.rows.length yc) := KT_1.out.cell 3
    have cT_4_1 : w91.cell? ⟨w.heap.size, 4, none⟩ = some (.bool g.off) := KT_1.out.cell 4
    have lZ_1 : w.heap.size + 1 < w91.heap.size := KZ_1.out.lt
    have cZ_0_1 : w91.cell? ⟨w.heap.size + 1, 0, none⟩ = some (.string ⟨#[]⟩) := KZ_1.out.cell 0
    have cZ_1_1 : w91.cell? ⟨w.heap.size + 1, 1, none⟩ = some (.int .i64 0) := KZ_1.out.cell 1
    have cZ_2_1 : w91.cell? ⟨w.heap.size + 1, 2, none⟩ = some (.slice none 0 0) := KZ_1.out.cell 2
    have cZ_3_1 : w91.cell? ⟨w.heap.size + 1, 3, none⟩ = some (.slice none 0 0) := KZ_1.out.cell 3
    have cZ_4_1 : w91.cell? ⟨w.heap.size + 1, 4, none⟩ = some (.bool false) := KZ_1.out.cell 4
    have f0 := KZ_1.out.frozen 0
    have f1 := KZ_1.out.frozen 1
    have f2 := KZ_1.out.frozen 2
    have f3 := KZ_1.out.frozen 3
    have f4 := KZ_1.out.frozen 4
    have hltz := KZ_1.out.lt
    have hltq : w.heap.size + 1 < w1.heap.size := HLZ.out
    have KE := Lib.hid (show Blk (((((w91.setCell ⟨w.heap.size + 1, 0, none⟩ (.string g.name)).setCell ⟨w.heap.size + 1, 1, none⟩ (.int .i64 o)).setCell ⟨w.heap.size + 1, 2, none⟩ (.slice xb g.ins.length xc)).setCell ⟨w.heap.size + 1, 3, none⟩ (.slice none 0 0)).setCell ⟨w.heap.size + 1, 4, none⟩ (.bool false)) (w.heap.size + 1) #[.string g.name, .int .i64 o, .slice xb g.ins.length xc, .slice none 0 0, .bool false] 39 from (((((KZ_1.out.set 0 (.string g.name)).set 1 (.int .i64 o)).set 2 (.slice xb g.ins.length xc)).set 3 (.slice none 0 0)).set 4 (.bool false)))
    have BE := Lib.hid (((((B_1.out.setCell (p := ⟨w.heap.size + 1, 0, none⟩) (by show w.heap.size ≤ w.heap.size + 1; omega) (.string g.name)).setCell (p := ⟨w.heap.size + 1, 1, none⟩) (by show w.heap.size ≤ w.heap.size + 1; omega) (.int .i64 o)).setCell (p := ⟨w.heap.size + 1, 2, none⟩) (by show w.heap.size ≤ w.heap.size + 1; omega) (.slice xb g.ins.length xc)).setCell (p := ⟨w.heap.size + 1, 3, none⟩) (by show w.heap.size ≤ w.heap.size + 1; omega) (.slice none 0 0)).setCell (p := ⟨w.heap.size + 1, 4, none⟩) (by show w.heap.size ≤ w.heap.size + 1; omega) (.bool false))
    have NI := Lib.hid (inn_row (row_set (row_set (row_set (row_set (row_set RI_1.out (p := ⟨w.heap.size + 1, 0, none⟩) hltq (.string g.name)) (p := ⟨w.heap.size + 1, 1, none⟩) hltq (.int .i64 o)) (p := ⟨w.heap.size + 1, 2, none⟩) hltq (.slice xb g.ins.length xc)) (p := ⟨w.heap.size + 1, 3, none⟩) hltq (.slice none 0 0)) (p := ⟨w.heap.size + 1, 4, none⟩) hltq (.bool false)) (Nat.le_trans HIL.out (by unfold maxLen; omega)) ZI.out)
    have NR := Lib.hid (inn_row (row_set (row_set (row_set (row_set (row_set RR_1.out (p := ⟨w.heap.size + 1, 0, none⟩) hltq (.string g.name)) (p := ⟨w.heap.size + 1, 1, none⟩) hltq (.int .i64 o)) (p := ⟨w.heap.size + 1, 2, none⟩) hltq (.slice xb g.ins.length xc)) (p := ⟨w.heap.size + 1, 3, none⟩) hltq (.slice none 0 0)) (p := ⟨w.heap.size + 1, 4, none⟩) hltq (.bool false)) (Nat.le_trans HRL.out (by unfold maxLen; omega)) ZR.out)
    go_wp2
    refine bodyPost_ret (results_cell_row rfl _ _ (w.heap.size + 1) 39 #[.string g.name, .int .i64 o, .slice xb g.ins.length xc, .slice none 0 0, .bool false] (0, 0) _ rfl KE.out Tryd.underlying39 rfl (by kernel_rfl)) rfl ?_
    exact ⟨⟨g.name, o, .slice xb g.ins.length xc, .slice none 0 0, false⟩, rfl, ⟨rfl, rfl, rfl, NI.out, Inn.none, HZ.out, (show (Lit.int .i64 o).wf = true from by have := opC_wf g; rwa [HQ.out] at this)⟩, BE.out⟩

theorem canon_no (g : Gt) (vi vr : Value) (o : Int) (w : World) (hi : Inn w vi g.ins) (hr : Inn w vr g.rows) (hil : g.ins.length ≤ 100000) (hrl : g.rows.length ≤ 100000) (hz : g.name.size ≤ maxLen) (hw : (Lit.int .i64 g.op).wf = true) (h10 : g.op = 10) (hq : opC g = (o, false)) :
    Calls Tryd.prog 25 #[.agg #[.string g.name, .int .i64 g.op, vi, vr, .bool g.off]] w fun e w' => ∃ r : Gr, e = .returned (.agg #[.string r.name, .int .i64 r.op, r.vi, r.vr, .bool r.off]) ∧ GtAt w' r g ∧ Below w.heap.size w w' := by
  have HI := Lib.hid hi
  have HR := Lib.hid hr
  obtain ⟨pi, qi, rfl⟩ := hi.lst.slice
  obtain ⟨pr, qr, rfl⟩ := hr.lst.slice
  have HIL := Lib.hid hil
  have HRL := Lib.hid hrl
  have HZ := Lib.hid hz
  have HW := Lib.hid hw
  have H10 := Lib.hid h10
  clear hi hr hil hrl hz hw h10
  have HQ := Lib.hid hq
  clear hq
  have ZI := Lib.hid HI.out.size
  have ZR := Lib.hid HR.out.size
  go_enter Tryd.func25, Tryd.ntmps25
  go_wp2_with fail
  have a1 : Below w.heap.size w ((w.alloc (.cells #[.string g.name, .int .i64 g.op, .slice pi g.ins.length qi, .slice pr g.rows.length qr, .bool g.off] 39)).alloc (.cells #[.string ⟨#[]⟩, .int .i64 0, .slice none 0 0, .slice none 0 0, .bool false] 39)) := (((Below.refl w.heap.size w).alloc (by first | exact Nat.le_refl _ | (simp only [World.size_alloc]; omega)) (.cells #[.string g.name, .int .i64 g.op, .slice pi g.ins.length qi, .slice pr g.rows.length qr, .bool g.off] 39)).alloc (by first | exact Nat.le_refl _ | (simp only [World.size_alloc]; omega)) (.cells #[.string ⟨#[]⟩, .int .i64 0, .slice none 0 0, .slice none 0 0, .bool false] 39))
  have T_new0 := ((Blk.new w #[.string g.name, .int .i64 g.op, .slice pi g.ins.length qi, .slice pr g.rows.length qr, .bool g.off] 39).alloc (.cells #[.string ⟨#[]⟩, .int .i64 0, .slice none 0 0, .slice none 0 0, .bool false] 39))
  have KT_00 := Lib.hid T_new0
  clear T_new0
  have Z_new0 := (Blk.new (w.alloc (.cells #[.string g.name, .int .i64 g.op, .slice pi g.ins.length qi, .slice pr g.rows.length qr, .bool g.off] 39)) #[.string ⟨#[]⟩, .int .i64 0, .slice none 0 0, .slice none 0 0, .bool false] 39)
  rw [World.size_alloc] at Z_new0
  have KZ_00 := Lib.hid Z_new0
  clear Z_new0
  have I_1 := Lib.hid (HI.out.below a1)
  clear HI
  have R_1 := Lib.hid (HR.out.below a1)
  clear HR
  have B_1 := Lib.hid a1
  clear a1
  generalize ((w.alloc (.cells #[.string g.name, .int .i64 g.op, .slice pi g.ins.length qi, .slice pr g.rows.length qr, .bool g.off] 39)).alloc (.cells #[.string ⟨#[]⟩, .int .i64 0, .slice none 0 0, .slice none 0 0, .bool false] 39)) = w1 at I_1 R_1 KT_00 KZ_00 B_1 ⊢
  have HLZ := Lib.hid KZ_00.out.lt
  have hd : Below w1.heap.size w1 w1.drew := (Below.refl _ _).drew
  have HS : Hid (∀ X : World, Below w1.heap.size w1 X → Blk X w.heap.size #[.string g.name, .int .i64 g.op, .slice pi g.ins.length qi, .slice pr g.rows.length qr, .bool g.off] 39) := Lib.hid fun X h => KT_00.out.below h KT_00.out.lt
  have kT := HS.out _ hd
  have x2 := kT.cell 2
  have x3 := kT.cell 3
  simp at x2 x3
  go_region_with (first | (go_at_call 56; (with_reducible refine (clone_any g.ins _ _ HIL.out (I_1.out.lst.below (by assumption)) I_1.out.nil).mono ?_); rintro e wa ⟨va, rfl, l2, hb⟩; have l2 := row_mono l2 (show w1.heap.size ≤ _ from Below.size (B := w1.heap.size) (by assumption)); have rB := chain (a := w1) hb (by assumption); have kT := HS.out _ rB; have x2 := kT.cell 2; have x3 := kT.cell 3; simp at x2 x3; obtain ⟨xb, xc, rfl⟩ := row_slice l2; clear hb) | (go_at_call 56; (with_reducible refine (clone_any g.rows _ _ HRL.out (R_1.out.lst.below (by assumption)) R_1.out.nil).mono ?_); rintro e wb ⟨vb, rfl, l3, hb⟩; have l3 := row_mono l3 (show w1.heap.size ≤ _ from Below.size (B := w1.heap.size) (by assumption)); have rB := chain (a := w1) hb (by assumption); have kT := HS.out _ rB; have x2 := kT.cell 2; have x3 := kT.cell 3; simp at x2 x3; have l4 := row_below l2 hb; have f2 := kT.frozen 2; have f3 := kT.frozen 3; obtain ⟨yb, yc, rfl⟩ := row_slice l3; clear hb))
  all_goals
    have hlt1 : w.heap.size < w1.heap.size := KT_00.out.lt
    have RI := Lib.hid (row_set (row_set l4 (p := ⟨w.heap.size, 2, none⟩) hlt1 (.slice xb g.ins.length xc)) (p := ⟨w.heap.size, 3, none⟩) hlt1 (.slice yb g.rows.length yc))
    have RR := Lib.hid (row_set (row_set l3 (p := ⟨w.heap.size, 2, none⟩) hlt1 (.slice xb g.ins.length xc)) (p := ⟨w.heap.size, 3, none⟩) hlt1 (.slice yb g.rows.length yc))
    have KT4 := Lib.hid (show Blk ((wb.setCell ⟨w.heap.size, 2, none⟩ (.slice xb g.ins.length xc)).setCell ⟨w.heap.size, 3, none⟩ (.slice yb g.rows.length yc)) w.heap.size #[.string g.name, .int .i64 g.op, .slice xb g.ins.length xc, .slice yb g.rows.length yc, .bool g.off] 39 from (kT.set 2 (.slice xb g.ins.length xc)).set 3 (.slice yb g.rows.length yc))
    have KZ4 := Lib.hid (((KZ_00.out.below rB KZ_00.out.lt).other (B' := w.heap.size) (by omega) 2 (.slice xb g.ins.length xc)).other (B' := w.heap.size) (by omega) 3 (.slice yb g.rows.length yc))
    have B4 := Lib.hid (((B_1.out.trans (rB.mono B_1.out.size)).setCell (p := ⟨w.heap.size, 2, none⟩) (Nat.le_refl _) (.slice xb g.ins.length xc)).setCell (p := ⟨w.heap.size, 3, none⟩) (Nat.le_refl _) (.slice yb g.rows.length yc))
    clear HS hd l2 l3 l4 f2 f3 kT x2 x3 rB hlt1 KT_00 KZ_00 B_1 I_1 R_1
    generalize ((wb.setCell ⟨w.heap.size, 2, none⟩ (.slice xb g.ins.length xc)).setCell ⟨w.heap.size, 3, none⟩ (.slice yb g.rows.length yc)) = w9 at RI RR KT4 KZ4 B4 ⊢
    have lT_0 : w.heap.size < w9.heap.size := KT4.out.lt
    have cT_0_0 : w9.cell? ⟨w.heap.size, 0, none⟩ = some (.string g.name) := KT4.out.cell 0
    have cT_1_0 : w9.cell? ⟨w.heap.size, 1, none⟩ = some (.int .i64 g.op) := KT4.out.cell 1
    have cT_2_0 : w9.cell? ⟨w.heap.size, 2, none⟩ = some (.slice xb g.ins.length xc) := KT4.out.cell 2
    have cT_3_0 : w9.cell? ⟨w.heap.size, 3, none⟩ = some (.slice yb g.rows.length yc) := KT4.out.cell 3
    have cT_4_0 : w9.cell? ⟨w.heap.size, 4, none⟩ = some (.bool g.off) := KT4.out.cell 4
    have lZ_0 : w.heap.size + 1 < w9.heap.size := KZ4.out.lt
    have cZ_0_0 : w9.cell? ⟨w.heap.size + 1, 0, none⟩ = some (.string ⟨#[]⟩) := KZ4.out.cell 0
    have cZ_1_0 : w9.cell? ⟨w.heap.size + 1, 1, none⟩ = some (.int .i64 0) := KZ4.out.cell 1
    have cZ_2_0 : w9.cell? ⟨w.heap.size + 1, 2, none⟩ = some (.slice none 0 0) := KZ4.out.cell 2
    have cZ_3_0 : w9.cell? ⟨w.heap.size + 1, 3, none⟩ = some (.slice none 0 0) := KZ4.out.cell 3
    have cZ_4_0 : w9.cell? ⟨w.heap.size + 1, 4, none⟩ = some (.bool false) := KZ4.out.cell 4
    have d10 : (g.op == 10) = true := by rw [H10.out]; rfl
    go_wp2_with fail
    clear lT_0 cT_0_0 cT_1_0 cT_2_0 cT_3_0 cT_4_0 lZ_0 cZ_0_0 cZ_1_0 cZ_2_0 cZ_3_0 cZ_4_0
    refine (opOf_ex g _ _ o false _ (inn_row RI.out (Nat.le_trans HIL.out (by unfold maxLen; omega)) ZI.out) (inn_row RR.out (Nat.le_trans HRL.out (by unfold maxLen; omega)) ZR.out) HRL.out HQ.out g.off rfl g.op rfl).mono ?_
    rintro e w91 ⟨rfl, b1⟩
    have RI_1 := Lib.hid (row_below RI.out b1)
    clear RI
    have RR_1 := Lib.hid (row_below RR.out b1)
    clear RR
    have KT_1 := Lib.hid (KT4.out.below b1 KT4.out.lt)
    clear KT4
    have KZ_1 := Lib.hid (KZ4.out.below b1 KZ4.out.lt)
    clear KZ4
    have B_1 := Lib.hid (B4.out.trans (b1.mono B4.out.size))
    clear B4
    clear b1
    have lT_1 : w.heap.size < w91.heap.size := KT_1.out.lt
    have cT_0_1 : w91.cell? ⟨w.heap.size, 0, none⟩ = some (.string g.name) := KT_1.out.cell 0
    have cT_1_1 : w91.cell? ⟨w.heap.size, 1, none⟩ = some (.int .i64 g.op) := KT_1.out.cell 1
    have cT_2_1 : w91.cell? ⟨w.heap.size, 2, none⟩ = some (.slice xb g.ins.length xc) := KT_1.out.cell 2
    have cT_3_1 : w91.cell? ⟨w.heap.size, 3, none⟩ = some (.slice yb g.rows.length yc) := KT_1.out.cell 3
    have cT_4_1 : w91.cell? ⟨w.heap.size, 4, none⟩ = some (.bool g.off) := KT_1.out.cell 4
    have lZ_1 : w.heap.size + 1 < w91.heap.size := KZ_1.out.lt
    have cZ_0_1 : w91.cell? ⟨w.heap.size + 1, 0, none⟩ = some (.string ⟨#[]⟩) := KZ_1.out.cell 0
    have cZ_1_1 : w91.cell? ⟨w.heap.size + 1, 1, none⟩ = some (.int .i64 0) := KZ_1.out.cell 1
    have cZ_2_1 : w91.cell? ⟨w.heap.size + 1, 2, none⟩ = some (.slice none 0 0) := KZ_1.out.cell 2
    have cZ_3_1 : w91.cell? ⟨w.heap.size + 1, 3, none⟩ = some (.slice none 0 0) := KZ_1.out.cell 3
    have cZ_4_1 : w91.cell? ⟨w.heap.size + 1, 4, none⟩ = some (.bool false) := KZ_1.out.cell 4
    have f0 := KZ_1.out.frozen 0
    have f1 := KZ_1.out.frozen 1
    have f2 := KZ_1.out.frozen 2
    have f3 := KZ_1.out.frozen 3
    have f4 := KZ_1.out.frozen 4
    have hltz := KZ_1.out.lt
    have hltq : w.heap.size + 1 < w1.heap.size := HLZ.out
    have KE := Lib.hid (show Blk (((((w91.setCell ⟨w.heap.size + 1, 0, none⟩ (.string g.name)).setCell ⟨w.heap.size + 1, 1, none⟩ (.int .i64 g.op)).setCell ⟨w.heap.size + 1, 2, none⟩ (.slice xb g.ins.length xc)).setCell ⟨w.heap.size + 1, 3, none⟩ (.slice yb g.rows.length yc)).setCell ⟨w.heap.size + 1, 4, none⟩ (.bool g.off)) (w.heap.size + 1) #[.string g.name, .int .i64 g.op, .slice xb g.ins.length xc, .slice yb g.rows.length yc, .bool g.off] 39 from (((((KZ_1.out.set 0 (.string g.name)).set 1 (.int .i64 g.op)).set 2 (.slice xb g.ins.length xc)).set 3 (.slice yb g.rows.length yc)).set 4 (.bool g.off)))
    have BE := Lib.hid (((((B_1.out.setCell (p := ⟨w.heap.size + 1, 0, none⟩) (by show w.heap.size ≤ w.heap.size + 1; omega) (.string g.name)).setCell (p := ⟨w.heap.size + 1, 1, none⟩) (by show w.heap.size ≤ w.heap.size + 1; omega) (.int .i64 g.op)).setCell (p := ⟨w.heap.size + 1, 2, none⟩) (by show w.heap.size ≤ w.heap.size + 1; omega) (.slice xb g.ins.length xc)).setCell (p := ⟨w.heap.size + 1, 3, none⟩) (by show w.heap.size ≤ w.heap.size + 1; omega) (.slice yb g.rows.length yc)).setCell (p := ⟨w.heap.size + 1, 4, none⟩) (by show w.heap.size ≤ w.heap.size + 1; omega) (.bool g.off))
    have NI := Lib.hid (inn_row (row_set (row_set (row_set (row_set (row_set RI_1.out (p := ⟨w.heap.size + 1, 0, none⟩) hltq (.string g.name)) (p := ⟨w.heap.size + 1, 1, none⟩) hltq (.int .i64 g.op)) (p := ⟨w.heap.size + 1, 2, none⟩) hltq (.slice xb g.ins.length xc)) (p := ⟨w.heap.size + 1, 3, none⟩) hltq (.slice yb g.rows.length yc)) (p := ⟨w.heap.size + 1, 4, none⟩) hltq (.bool g.off)) (Nat.le_trans HIL.out (by unfold maxLen; omega)) ZI.out)
    have NR := Lib.hid (inn_row (row_set (row_set (row_set (row_set (row_set RR_1.out (p := ⟨w.heap.size + 1, 0, none⟩) hltq (.string g.name)) (p := ⟨w.heap.size + 1, 1, none⟩) hltq (.int .i64 g.op)) (p := ⟨w.heap.size + 1, 2, none⟩) hltq (.slice xb g.ins.length xc)) (p := ⟨w.heap.size + 1, 3, none⟩) hltq (.slice yb g.rows.length yc)) (p := ⟨w.heap.size + 1, 4, none⟩) hltq (.bool g.off)) (Nat.le_trans HRL.out (by unfold maxLen; omega)) ZR.out)
    go_wp2
    refine bodyPost_ret (results_cell_row rfl _ _ (w.heap.size + 1) 39 #[.string g.name, .int .i64 g.op, .slice xb g.ins.length xc, .slice yb g.rows.length yc, .bool g.off] (0, 0) _ rfl KE.out Tryd.underlying39 rfl (by kernel_rfl)) rfl ?_
    exact ⟨⟨g.name, g.op, .slice xb g.ins.length xc, .slice yb g.rows.length yc, g.off⟩, rfl, ⟨rfl, rfl, rfl, NI.out, NR.out, HZ.out, HW.out⟩, BE.out⟩
end Go.Proofs.YtfkmolbcgnkfdaaDoor
