/- The document's own spelling. -/
import Derived.Test.YtfljnhmpelpdaaaDoorRef3
import Derived.Test.YtfljnhmpelpdaaaDoorReads
namespace Go.Proofs.YtfljnhmpelpdaaaDoor
open Go.RowKit
set_option maxRecDepth 100000
set_option maxHeartbeats 1000000

theorem rsp0n (s : ByteArray) (w : World) (hss : s.size ≤ 100000) (hn : nameB s = true) (h3 : (s.size : Int) < 3) : Calls Tryd.prog 49 #[.int .i64 0, .string s] w (Two w (s, 0)) := by
  have hsz := name_size s hn
  have hs40 : (s.size : Int) ≤ 40 := by omega
  have h3' : decide ((3 : Int) ≤ (s.size : Int)) = false := decide_eq_false (by omega)
  have HN := Lib.hid hn
  have HSS := Lib.hid hss
  clear hn hsz
  go_enter Tryd.func49, Tryd.ntmps49
  go_wp2_with fail
  refine (rname_any s _ HSS.out).mono ?_
  rw [HN.out]
  rintro e w' ⟨rfl, rfl⟩
  go_wp2_with fail
  refine (known_any 0 _).mono ?_
  rw [show fmtB 0 = true from rfl]
  rintro e w' ⟨rfl, rfl⟩
  go_wp2
  go_ret2
  exact ⟨rfl, Below.refl _ _⟩
theorem rsp0f (s : ByteArray) (w : World) (hss : s.size ≤ 100000) (hn : nameB s = true) (h3 : (3 : Int) ≤ (s.size : Int)) (hm : mark3 s = false) : Calls Tryd.prog 49 #[.int .i64 0, .string s] w (Two w (s, 0)) := by
  have hsz := name_size s hn
  have hs40 : (s.size : Int) ≤ 40 := by omega
  rw [mark_ext s (by omega)] at hm
  have hsl : ∀ wx : World, (Instr.slice 9 (.string s) none (some (.int .i64 3)) none).run Tryd.prog wx = .ok (.string (s.extract 0 3)) wx := fun wx => run_slice_string_h (P := Tryd.prog) wx 9 s Tryd.underlying9 .i64 3 (by omega) (by omega)
  generalize s.extract 0 3 = u at hm hsl
  have hm2 : (u.toList == [120, 95, 95]) = false := by rw [← lit3]; exact hm
  clear hm
  have HN := Lib.hid hn
  have HSS := Lib.hid hss
  clear hn hsz
  go_enter Tryd.func49, Tryd.ntmps49
  go_wp2_with fail
  refine (rname_any s _ HSS.out).mono ?_
  rw [HN.out]
  rintro e w' ⟨rfl, rfl⟩
  go_wp2_with fail
  refine (known_any 0 _).mono ?_
  rw [show fmtB 0 = true from rfl]
  rintro e w' ⟨rfl, rfl⟩
  go_wp2
  go_ret2
  exact ⟨rfl, Below.refl _ _⟩
theorem rsp0t (s : ByteArray) (w : World) (hss : s.size ≤ 100000) (hn : nameB s = true) (h3 : (3 : Int) ≤ (s.size : Int)) (hm : mark3 s = true) : Calls Tryd.prog 49 #[.int .i64 0, .string s] w (Two w (s, 0)) := by
  have hsz := name_size s hn
  have hs40 : (s.size : Int) ≤ 40 := by omega
  rw [mark_ext s (by omega)] at hm
  have hsl : ∀ wx : World, (Instr.slice 9 (.string s) none (some (.int .i64 3)) none).run Tryd.prog wx = .ok (.string (s.extract 0 3)) wx := fun wx => run_slice_string_h (P := Tryd.prog) wx 9 s Tryd.underlying9 .i64 3 (by omega) (by omega)
  generalize s.extract 0 3 = u at hm hsl
  have hm2 : (u.toList == [120, 95, 95]) = true := by rw [← lit3]; exact hm
  clear hm
  have HN := Lib.hid hn
  have HSS := Lib.hid hss
  clear hn hsz
  go_enter Tryd.func49, Tryd.ntmps49
  go_wp2_with fail
  refine (rname_any s _ HSS.out).mono ?_
  rw [HN.out]
  rintro e w' ⟨rfl, rfl⟩
  go_wp2_with fail
  refine (known_any 0 _).mono ?_
  rw [show fmtB 0 = true from rfl]
  rintro e w' ⟨rfl, rfl⟩
  go_wp2
  go_ret2
  exact ⟨rfl, Below.refl _ _⟩
theorem rsp1n (s : ByteArray) (w : World) (hss : s.size ≤ 100000) (hn : nameB s = true) (h3 : (s.size : Int) < 3) : Calls Tryd.prog 49 #[.int .i64 1, .string s] w (Two w (s, 0)) := by
  have hsz := name_size s hn
  have hs40 : (s.size : Int) ≤ 40 := by omega
  have h3' : decide ((3 : Int) ≤ (s.size : Int)) = false := decide_eq_false (by omega)
  have HN := Lib.hid hn
  have HSS := Lib.hid hss
  clear hn hsz
  go_enter Tryd.func49, Tryd.ntmps49
  go_wp2_with fail
  refine (rname_any s _ HSS.out).mono ?_
  rw [HN.out]
  rintro e w' ⟨rfl, rfl⟩
  go_wp2_with fail
  refine (known_any 1 _).mono ?_
  rw [show fmtB 1 = true from rfl]
  rintro e w' ⟨rfl, rfl⟩
  go_wp2
  go_ret2
  exact ⟨rfl, Below.refl _ _⟩
theorem rsp1f (s : ByteArray) (w : World) (hss : s.size ≤ 100000) (hn : nameB s = true) (h3 : (3 : Int) ≤ (s.size : Int)) (hm : mark3 s = false) : Calls Tryd.prog 49 #[.int .i64 1, .string s] w (Two w (s, 0)) := by
  have hsz := name_size s hn
  have hs40 : (s.size : Int) ≤ 40 := by omega
  rw [mark_ext s (by omega)] at hm
  have hsl : ∀ wx : World, (Instr.slice 9 (.string s) none (some (.int .i64 3)) none).run Tryd.prog wx = .ok (.string (s.extract 0 3)) wx := fun wx => run_slice_string_h (P := Tryd.prog) wx 9 s Tryd.underlying9 .i64 3 (by omega) (by omega)
  generalize s.extract 0 3 = u at hm hsl
  have hm2 : (u.toList == [120, 95, 95]) = false := by rw [← lit3]; exact hm
  clear hm
  have HN := Lib.hid hn
  have HSS := Lib.hid hss
  clear hn hsz
  go_enter Tryd.func49, Tryd.ntmps49
  go_wp2_with fail
  refine (rname_any s _ HSS.out).mono ?_
  rw [HN.out]
  rintro e w' ⟨rfl, rfl⟩
  go_wp2_with fail
  refine (known_any 1 _).mono ?_
  rw [show fmtB 1 = true from rfl]
  rintro e w' ⟨rfl, rfl⟩
  go_wp2
  go_ret2
  exact ⟨rfl, Below.refl _ _⟩
theorem rsp1t (s : ByteArray) (w : World) (hss : s.size ≤ 100000) (hn : nameB s = true) (h3 : (3 : Int) ≤ (s.size : Int)) (hm : mark3 s = true) : Calls Tryd.prog 49 #[.int .i64 1, .string s] w (Two w (s, 0)) := by
  have hsz := name_size s hn
  have hs40 : (s.size : Int) ≤ 40 := by omega
  rw [mark_ext s (by omega)] at hm
  have hsl : ∀ wx : World, (Instr.slice 9 (.string s) none (some (.int .i64 3)) none).run Tryd.prog wx = .ok (.string (s.extract 0 3)) wx := fun wx => run_slice_string_h (P := Tryd.prog) wx 9 s Tryd.underlying9 .i64 3 (by omega) (by omega)
  generalize s.extract 0 3 = u at hm hsl
  have hm2 : (u.toList == [120, 95, 95]) = true := by rw [← lit3]; exact hm
  clear hm
  have HN := Lib.hid hn
  have HSS := Lib.hid hss
  clear hn hsz
  go_enter Tryd.func49, Tryd.ntmps49
  go_wp2_with fail
  refine (rname_any s _ HSS.out).mono ?_
  rw [HN.out]
  rintro e w' ⟨rfl, rfl⟩
  go_wp2_with fail
  refine (known_any 1 _).mono ?_
  rw [show fmtB 1 = true from rfl]
  rintro e w' ⟨rfl, rfl⟩
  go_wp2
  go_ret2
  exact ⟨rfl, Below.refl _ _⟩
theorem rsp2nl (s : ByteArray) (w : World) (hss : s.size ≤ 100000) (hn : nameB s = true) (h3 : (s.size : Int) < 3) (hl : legalB 2 s = true) : Calls Tryd.prog 49 #[.int .i64 2, .string s] w (Two w (s, 0)) := by
  have hsz := name_size s hn
  have hs40 : (s.size : Int) ≤ 40 := by omega
  have h3' : decide ((3 : Int) ≤ (s.size : Int)) = false := decide_eq_false (by omega)
  have HN := Lib.hid hn
  have HSS := Lib.hid hss
  have HL := Lib.hid hl
  clear hn hsz hl
  go_enter Tryd.func49, Tryd.ntmps49
  go_wp2_with fail
  refine (rname_any s _ HSS.out).mono ?_
  rw [HN.out]
  rintro e w' ⟨rfl, rfl⟩
  go_wp2_with fail
  refine (known_any 2 _).mono ?_
  rw [show fmtB 2 = true from rfl]
  rintro e w' ⟨rfl, rfl⟩
  go_wp2_with fail
  refine (rlegal_any 2 s _ HSS.out).mono ?_
  rw [HL.out]
  rintro e w1 ⟨rfl, b1⟩
  have B1 := Lib.hid b1
  clear b1
  go_wp2
  go_ret2
  exact ⟨rfl, B1.out⟩
theorem rsp2nx (s : ByteArray) (w : World) (hss : s.size ≤ 100000) (hn : nameB s = true) (h3 : (s.size : Int) < 3) (hl : legalB 2 s = false) : Calls Tryd.prog 49 #[.int .i64 2, .string s] w (Two w (⟨#[120, 95, 95]⟩ ++ ⟨(hexL s.data.toList).toArray⟩, 0)) := by
  have hsz := name_size s hn
  have hs40 : (s.size : Int) ≤ 40 := by omega
  have h3' : decide ((3 : Int) ≤ (s.size : Int)) = false := decide_eq_false (by omega)
  have HN := Lib.hid hn
  have HSS := Lib.hid hss
  have HL := Lib.hid hl
  have HZ := Lib.hid hsz
  clear hn hsz hl
  go_enter Tryd.func49, Tryd.ntmps49
  go_wp2_with fail
  refine (rname_any s _ HSS.out).mono ?_
  rw [HN.out]
  rintro e w' ⟨rfl, rfl⟩
  go_wp2_with fail
  refine (known_any 2 _).mono ?_
  rw [show fmtB 2 = true from rfl]
  rintro e w' ⟨rfl, rfl⟩
  go_wp2_with fail
  refine (rlegal_any 2 s _ HSS.out).mono ?_
  rw [HL.out]
  rintro e w1 ⟨rfl, b1⟩
  have B1 := Lib.hid b1
  clear b1
  go_wp2_with fail
  refine (rhex_any s _ HZ.out.2).mono ?_
  rintro e w2 ⟨rfl, b2⟩
  have hl := hexL_len s.data.toList
  have hl2 : (hexL s.data.toList).length ≤ 80 := by have := HZ.out; rw [hl]; simp; omega
  have HH := Lib.hid (B1.out.trans (b2.mono B1.out.size))
  clear b2 hl
  generalize ht : hexL s.data.toList = t at hl2
  have HT := Lib.hid ht
  clear ht
  go_wp2
  go_ret2
  rw [HT.out]
  exact ⟨rfl, HH.out⟩
theorem rsp2fl (s : ByteArray) (w : World) (hss : s.size ≤ 100000) (hn : nameB s = true) (h3 : (3 : Int) ≤ (s.size : Int)) (hm : mark3 s = false) (hl : legalB 2 s = true) : Calls Tryd.prog 49 #[.int .i64 2, .string s] w (Two w (s, 0)) := by
  have hsz := name_size s hn
  have hs40 : (s.size : Int) ≤ 40 := by omega
  rw [mark_ext s (by omega)] at hm
  have hsl : ∀ wx : World, (Instr.slice 9 (.string s) none (some (.int .i64 3)) none).run Tryd.prog wx = .ok (.string (s.extract 0 3)) wx := fun wx => run_slice_string_h (P := Tryd.prog) wx 9 s Tryd.underlying9 .i64 3 (by omega) (by omega)
  generalize s.extract 0 3 = u at hm hsl
  have hm2 : (u.toList == [120, 95, 95]) = false := by rw [← lit3]; exact hm
  clear hm
  have HN := Lib.hid hn
  have HSS := Lib.hid hss
  have HL := Lib.hid hl
  clear hn hsz hl
  go_enter Tryd.func49, Tryd.ntmps49
  go_wp2_with fail
  refine (rname_any s _ HSS.out).mono ?_
  rw [HN.out]
  rintro e w' ⟨rfl, rfl⟩
  go_wp2_with fail
  refine (known_any 2 _).mono ?_
  rw [show fmtB 2 = true from rfl]
  rintro e w' ⟨rfl, rfl⟩
  go_wp2_with fail
  refine (rlegal_any 2 s _ HSS.out).mono ?_
  rw [HL.out]
  rintro e w1 ⟨rfl, b1⟩
  have B1 := Lib.hid b1
  clear b1
  go_wp2
  go_ret2
  exact ⟨rfl, B1.out⟩
theorem rsp2fx (s : ByteArray) (w : World) (hss : s.size ≤ 100000) (hn : nameB s = true) (h3 : (3 : Int) ≤ (s.size : Int)) (hm : mark3 s = false) (hl : legalB 2 s = false) : Calls Tryd.prog 49 #[.int .i64 2, .string s] w (Two w (⟨#[120, 95, 95]⟩ ++ ⟨(hexL s.data.toList).toArray⟩, 0)) := by
  have hsz := name_size s hn
  have hs40 : (s.size : Int) ≤ 40 := by omega
  rw [mark_ext s (by omega)] at hm
  have hsl : ∀ wx : World, (Instr.slice 9 (.string s) none (some (.int .i64 3)) none).run Tryd.prog wx = .ok (.string (s.extract 0 3)) wx := fun wx => run_slice_string_h (P := Tryd.prog) wx 9 s Tryd.underlying9 .i64 3 (by omega) (by omega)
  generalize s.extract 0 3 = u at hm hsl
  have hm2 : (u.toList == [120, 95, 95]) = false := by rw [← lit3]; exact hm
  clear hm
  have HN := Lib.hid hn
  have HSS := Lib.hid hss
  have HL := Lib.hid hl
  have HZ := Lib.hid hsz
  clear hn hsz hl
  go_enter Tryd.func49, Tryd.ntmps49
  go_wp2_with fail
  refine (rname_any s _ HSS.out).mono ?_
  rw [HN.out]
  rintro e w' ⟨rfl, rfl⟩
  go_wp2_with fail
  refine (known_any 2 _).mono ?_
  rw [show fmtB 2 = true from rfl]
  rintro e w' ⟨rfl, rfl⟩
  go_wp2_with fail
  refine (rlegal_any 2 s _ HSS.out).mono ?_
  rw [HL.out]
  rintro e w1 ⟨rfl, b1⟩
  have B1 := Lib.hid b1
  clear b1
  go_wp2_with fail
  refine (rhex_any s _ HZ.out.2).mono ?_
  rintro e w2 ⟨rfl, b2⟩
  have hl := hexL_len s.data.toList
  have hl2 : (hexL s.data.toList).length ≤ 80 := by have := HZ.out; rw [hl]; simp; omega
  have HH := Lib.hid (B1.out.trans (b2.mono B1.out.size))
  clear b2 hl
  generalize ht : hexL s.data.toList = t at hl2
  have HT := Lib.hid ht
  clear ht
  go_wp2
  go_ret2
  rw [HT.out]
  exact ⟨rfl, HH.out⟩
theorem rsp2t (s : ByteArray) (w : World) (hss : s.size ≤ 100000) (hn : nameB s = true) (h3 : (3 : Int) ≤ (s.size : Int)) (hm : mark3 s = true) : Calls Tryd.prog 49 #[.int .i64 2, .string s] w (Two w (⟨#[120, 95, 95]⟩ ++ ⟨(hexL s.data.toList).toArray⟩, 0)) := by
  have hsz := name_size s hn
  have hs40 : (s.size : Int) ≤ 40 := by omega
  rw [mark_ext s (by omega)] at hm
  have hsl : ∀ wx : World, (Instr.slice 9 (.string s) none (some (.int .i64 3)) none).run Tryd.prog wx = .ok (.string (s.extract 0 3)) wx := fun wx => run_slice_string_h (P := Tryd.prog) wx 9 s Tryd.underlying9 .i64 3 (by omega) (by omega)
  generalize s.extract 0 3 = u at hm hsl
  have hm2 : (u.toList == [120, 95, 95]) = true := by rw [← lit3]; exact hm
  clear hm
  have HN := Lib.hid hn
  have HSS := Lib.hid hss
  have HZ := Lib.hid hsz
  clear hn hsz
  go_enter Tryd.func49, Tryd.ntmps49
  go_wp2_with fail
  refine (rname_any s _ HSS.out).mono ?_
  rw [HN.out]
  rintro e w' ⟨rfl, rfl⟩
  go_wp2_with fail
  refine (known_any 2 _).mono ?_
  rw [show fmtB 2 = true from rfl]
  rintro e w' ⟨rfl, rfl⟩
  go_wp2_with fail
  refine (rhex_any s _ HZ.out.2).mono ?_
  rintro e w2 ⟨rfl, b2⟩
  have hl := hexL_len s.data.toList
  have hl2 : (hexL s.data.toList).length ≤ 80 := by have := HZ.out; rw [hl]; simp; omega
  have HH := Lib.hid b2
  clear b2 hl
  generalize ht : hexL s.data.toList = t at hl2
  have HT := Lib.hid ht
  clear ht
  go_wp2
  go_ret2
  rw [HT.out]
  exact ⟨rfl, HH.out⟩
theorem rsp3nl (s : ByteArray) (w : World) (hss : s.size ≤ 100000) (hn : nameB s = true) (h3 : (s.size : Int) < 3) (hl : legalB 3 s = true) : Calls Tryd.prog 49 #[.int .i64 3, .string s] w (Two w (s, 0)) := by
  have hsz := name_size s hn
  have hs40 : (s.size : Int) ≤ 40 := by omega
  have h3' : decide ((3 : Int) ≤ (s.size : Int)) = false := decide_eq_false (by omega)
  have HN := Lib.hid hn
  have HSS := Lib.hid hss
  have HL := Lib.hid hl
  clear hn hsz hl
  go_enter Tryd.func49, Tryd.ntmps49
  go_wp2_with fail
  refine (rname_any s _ HSS.out).mono ?_
  rw [HN.out]
  rintro e w' ⟨rfl, rfl⟩
  go_wp2_with fail
  refine (known_any 3 _).mono ?_
  rw [show fmtB 3 = true from rfl]
  rintro e w' ⟨rfl, rfl⟩
  go_wp2_with fail
  refine (rlegal_any 3 s _ HSS.out).mono ?_
  rw [HL.out]
  rintro e w1 ⟨rfl, b1⟩
  have B1 := Lib.hid b1
  clear b1
  go_wp2
  go_ret2
  exact ⟨rfl, B1.out⟩
theorem rsp3nx (s : ByteArray) (w : World) (hss : s.size ≤ 100000) (hn : nameB s = true) (h3 : (s.size : Int) < 3) (hl : legalB 3 s = false) : Calls Tryd.prog 49 #[.int .i64 3, .string s] w (Two w (⟨#[120, 95, 95]⟩ ++ ⟨(hexL s.data.toList).toArray⟩, 0)) := by
  have hsz := name_size s hn
  have hs40 : (s.size : Int) ≤ 40 := by omega
  have h3' : decide ((3 : Int) ≤ (s.size : Int)) = false := decide_eq_false (by omega)
  have HN := Lib.hid hn
  have HSS := Lib.hid hss
  have HL := Lib.hid hl
  have HZ := Lib.hid hsz
  clear hn hsz hl
  go_enter Tryd.func49, Tryd.ntmps49
  go_wp2_with fail
  refine (rname_any s _ HSS.out).mono ?_
  rw [HN.out]
  rintro e w' ⟨rfl, rfl⟩
  go_wp2_with fail
  refine (known_any 3 _).mono ?_
  rw [show fmtB 3 = true from rfl]
  rintro e w' ⟨rfl, rfl⟩
  go_wp2_with fail
  refine (rlegal_any 3 s _ HSS.out).mono ?_
  rw [HL.out]
  rintro e w1 ⟨rfl, b1⟩
  have B1 := Lib.hid b1
  clear b1
  go_wp2_with fail
  refine (rhex_any s _ HZ.out.2).mono ?_
  rintro e w2 ⟨rfl, b2⟩
  have hl := hexL_len s.data.toList
  have hl2 : (hexL s.data.toList).length ≤ 80 := by have := HZ.out; rw [hl]; simp; omega
  have HH := Lib.hid (B1.out.trans (b2.mono B1.out.size))
  clear b2 hl
  generalize ht : hexL s.data.toList = t at hl2
  have HT := Lib.hid ht
  clear ht
  go_wp2
  go_ret2
  rw [HT.out]
  exact ⟨rfl, HH.out⟩
theorem rsp3fl (s : ByteArray) (w : World) (hss : s.size ≤ 100000) (hn : nameB s = true) (h3 : (3 : Int) ≤ (s.size : Int)) (hm : mark3 s = false) (hl : legalB 3 s = true) : Calls Tryd.prog 49 #[.int .i64 3, .string s] w (Two w (s, 0)) := by
  have hsz := name_size s hn
  have hs40 : (s.size : Int) ≤ 40 := by omega
  rw [mark_ext s (by omega)] at hm
  have hsl : ∀ wx : World, (Instr.slice 9 (.string s) none (some (.int .i64 3)) none).run Tryd.prog wx = .ok (.string (s.extract 0 3)) wx := fun wx => run_slice_string_h (P := Tryd.prog) wx 9 s Tryd.underlying9 .i64 3 (by omega) (by omega)
  generalize s.extract 0 3 = u at hm hsl
  have hm2 : (u.toList == [120, 95, 95]) = false := by rw [← lit3]; exact hm
  clear hm
  have HN := Lib.hid hn
  have HSS := Lib.hid hss
  have HL := Lib.hid hl
  clear hn hsz hl
  go_enter Tryd.func49, Tryd.ntmps49
  go_wp2_with fail
  refine (rname_any s _ HSS.out).mono ?_
  rw [HN.out]
  rintro e w' ⟨rfl, rfl⟩
  go_wp2_with fail
  refine (known_any 3 _).mono ?_
  rw [show fmtB 3 = true from rfl]
  rintro e w' ⟨rfl, rfl⟩
  go_wp2_with fail
  refine (rlegal_any 3 s _ HSS.out).mono ?_
  rw [HL.out]
  rintro e w1 ⟨rfl, b1⟩
  have B1 := Lib.hid b1
  clear b1
  go_wp2
  go_ret2
  exact ⟨rfl, B1.out⟩
theorem rsp3fx (s : ByteArray) (w : World) (hss : s.size ≤ 100000) (hn : nameB s = true) (h3 : (3 : Int) ≤ (s.size : Int)) (hm : mark3 s = false) (hl : legalB 3 s = false) : Calls Tryd.prog 49 #[.int .i64 3, .string s] w (Two w (⟨#[120, 95, 95]⟩ ++ ⟨(hexL s.data.toList).toArray⟩, 0)) := by
  have hsz := name_size s hn
  have hs40 : (s.size : Int) ≤ 40 := by omega
  rw [mark_ext s (by omega)] at hm
  have hsl : ∀ wx : World, (Instr.slice 9 (.string s) none (some (.int .i64 3)) none).run Tryd.prog wx = .ok (.string (s.extract 0 3)) wx := fun wx => run_slice_string_h (P := Tryd.prog) wx 9 s Tryd.underlying9 .i64 3 (by omega) (by omega)
  generalize s.extract 0 3 = u at hm hsl
  have hm2 : (u.toList == [120, 95, 95]) = false := by rw [← lit3]; exact hm
  clear hm
  have HN := Lib.hid hn
  have HSS := Lib.hid hss
  have HL := Lib.hid hl
  have HZ := Lib.hid hsz
  clear hn hsz hl
  go_enter Tryd.func49, Tryd.ntmps49
  go_wp2_with fail
  refine (rname_any s _ HSS.out).mono ?_
  rw [HN.out]
  rintro e w' ⟨rfl, rfl⟩
  go_wp2_with fail
  refine (known_any 3 _).mono ?_
  rw [show fmtB 3 = true from rfl]
  rintro e w' ⟨rfl, rfl⟩
  go_wp2_with fail
  refine (rlegal_any 3 s _ HSS.out).mono ?_
  rw [HL.out]
  rintro e w1 ⟨rfl, b1⟩
  have B1 := Lib.hid b1
  clear b1
  go_wp2_with fail
  refine (rhex_any s _ HZ.out.2).mono ?_
  rintro e w2 ⟨rfl, b2⟩
  have hl := hexL_len s.data.toList
  have hl2 : (hexL s.data.toList).length ≤ 80 := by have := HZ.out; rw [hl]; simp; omega
  have HH := Lib.hid (B1.out.trans (b2.mono B1.out.size))
  clear b2 hl
  generalize ht : hexL s.data.toList = t at hl2
  have HT := Lib.hid ht
  clear ht
  go_wp2
  go_ret2
  rw [HT.out]
  exact ⟨rfl, HH.out⟩
theorem rsp3t (s : ByteArray) (w : World) (hss : s.size ≤ 100000) (hn : nameB s = true) (h3 : (3 : Int) ≤ (s.size : Int)) (hm : mark3 s = true) : Calls Tryd.prog 49 #[.int .i64 3, .string s] w (Two w (⟨#[120, 95, 95]⟩ ++ ⟨(hexL s.data.toList).toArray⟩, 0)) := by
  have hsz := name_size s hn
  have hs40 : (s.size : Int) ≤ 40 := by omega
  rw [mark_ext s (by omega)] at hm
  have hsl : ∀ wx : World, (Instr.slice 9 (.string s) none (some (.int .i64 3)) none).run Tryd.prog wx = .ok (.string (s.extract 0 3)) wx := fun wx => run_slice_string_h (P := Tryd.prog) wx 9 s Tryd.underlying9 .i64 3 (by omega) (by omega)
  generalize s.extract 0 3 = u at hm hsl
  have hm2 : (u.toList == [120, 95, 95]) = true := by rw [← lit3]; exact hm
  clear hm
  have HN := Lib.hid hn
  have HSS := Lib.hid hss
  have HZ := Lib.hid hsz
  clear hn hsz
  go_enter Tryd.func49, Tryd.ntmps49
  go_wp2_with fail
  refine (rname_any s _ HSS.out).mono ?_
  rw [HN.out]
  rintro e w' ⟨rfl, rfl⟩
  go_wp2_with fail
  refine (known_any 3 _).mono ?_
  rw [show fmtB 3 = true from rfl]
  rintro e w' ⟨rfl, rfl⟩
  go_wp2_with fail
  refine (rhex_any s _ HZ.out.2).mono ?_
  rintro e w2 ⟨rfl, b2⟩
  have hl := hexL_len s.data.toList
  have hl2 : (hexL s.data.toList).length ≤ 80 := by have := HZ.out; rw [hl]; simp; omega
  have HH := Lib.hid b2
  clear b2 hl
  generalize ht : hexL s.data.toList = t at hl2
  have HT := Lib.hid ht
  clear ht
  go_wp2
  go_ret2
  rw [HT.out]
  exact ⟨rfl, HH.out⟩

theorem rsp4 (s : ByteArray) (w : World) (hss : s.size ≤ 100000) (hn : nameB s = true) : Calls Tryd.prog 49 #[.int .i64 4, .string s] w (Two w (spellF 4 s)) := by
  have hsz := name_size s hn
  have hs40 : (s.size : Int) ≤ 40 := by omega
  have HN := Lib.hid hn
  have HSS := Lib.hid hss
  by_cases h3 : (s.size : Int) < 3
  · cases hl : legalB 4 s
    · skip
      have HL := Lib.hid hl
      have hr : spellF 4 s = (⟨#[92]⟩ ++ s ++ ⟨#[32]⟩, 0) := by unfold spellF; rw [hn, hl]; rfl
      rw [hr]
      clear hn hsz hl hr
      go_enter Tryd.func49, Tryd.ntmps49
      go_wp2_with fail
      refine (rname_any s _ HSS.out).mono ?_
      rw [HN.out]
      rintro e w' ⟨rfl, rfl⟩
      go_wp2_with fail
      refine (known_any 4 _).mono ?_
      rw [show fmtB 4 = true from rfl]
      rintro e w' ⟨rfl, rfl⟩
      go_wp2_with fail
      refine (rlegal_any 4 s _ HSS.out).mono ?_
      rw [HL.out]
      rintro e w1 ⟨rfl, b1⟩
      have B1 := Lib.hid b1
      clear b1
      go_wp2
      go_ret2
      exact ⟨rfl, B1.out⟩
    · skip
      have HL := Lib.hid hl
      have hr : spellF 4 s = (s, 0) := by unfold spellF; rw [hn, hl]; rfl
      rw [hr]
      have h3' : decide ((3 : Int) ≤ (s.size : Int)) = false := decide_eq_false (by omega)
      clear hn hsz hl hr
      go_enter Tryd.func49, Tryd.ntmps49
      go_wp2_with fail
      refine (rname_any s _ HSS.out).mono ?_
      rw [HN.out]
      rintro e w' ⟨rfl, rfl⟩
      go_wp2_with fail
      refine (known_any 4 _).mono ?_
      rw [show fmtB 4 = true from rfl]
      rintro e w' ⟨rfl, rfl⟩
      go_wp2_with fail
      refine (rlegal_any 4 s _ HSS.out).mono ?_
      rw [HL.out]
      rintro e w1 ⟨rfl, b1⟩
      have B1 := Lib.hid b1
      clear b1
      go_wp2
      go_ret2
      exact ⟨rfl, B1.out⟩
  · have h3x : (3 : Int) ≤ (s.size : Int) := by omega
    have hsl : ∀ wx : World, (Instr.slice 9 (.string s) none (some (.int .i64 3)) none).run Tryd.prog wx = .ok (.string (s.extract 0 3)) wx := fun wx => run_slice_string_h (P := Tryd.prog) wx 9 s Tryd.underlying9 .i64 3 (by omega) (by omega)
    generalize s.extract 0 3 = u at hsl
    cases hl : legalB 4 s
    · skip
      have HL := Lib.hid hl
      have hr : spellF 4 s = (⟨#[92]⟩ ++ s ++ ⟨#[32]⟩, 0) := by unfold spellF; rw [hn, hl]; rfl
      rw [hr]
      clear hn hsz hl hr
      go_enter Tryd.func49, Tryd.ntmps49
      go_wp2_with fail
      refine (rname_any s _ HSS.out).mono ?_
      rw [HN.out]
      rintro e w' ⟨rfl, rfl⟩
      go_wp2_with fail
      refine (known_any 4 _).mono ?_
      rw [show fmtB 4 = true from rfl]
      rintro e w' ⟨rfl, rfl⟩
      go_wp2_with fail
      refine (rlegal_any 4 s _ HSS.out).mono ?_
      rw [HL.out]
      rintro e w1 ⟨rfl, b1⟩
      have B1 := Lib.hid b1
      clear b1
      go_wp2
      go_ret2
      exact ⟨rfl, B1.out⟩
    · cases hm2 : (u.toList == [120, 95, 95])
      · skip
        have HL := Lib.hid hl
        have hr : spellF 4 s = (s, 0) := by unfold spellF; rw [hn, hl]; rfl
        rw [hr]
        clear hn hsz hl hr
        go_enter Tryd.func49, Tryd.ntmps49
        go_wp2_with fail
        refine (rname_any s _ HSS.out).mono ?_
        rw [HN.out]
        rintro e w' ⟨rfl, rfl⟩
        go_wp2_with fail
        refine (known_any 4 _).mono ?_
        rw [show fmtB 4 = true from rfl]
        rintro e w' ⟨rfl, rfl⟩
        go_wp2_with fail
        refine (rlegal_any 4 s _ HSS.out).mono ?_
        rw [HL.out]
        rintro e w1 ⟨rfl, b1⟩
        have B1 := Lib.hid b1
        clear b1
        go_wp2
        go_ret2
        exact ⟨rfl, B1.out⟩
      · skip
        have HL := Lib.hid hl
        have hr : spellF 4 s = (s, 0) := by unfold spellF; rw [hn, hl]; rfl
        rw [hr]
        clear hn hsz hl hr
        go_enter Tryd.func49, Tryd.ntmps49
        go_wp2_with fail
        refine (rname_any s _ HSS.out).mono ?_
        rw [HN.out]
        rintro e w' ⟨rfl, rfl⟩
        go_wp2_with fail
        refine (known_any 4 _).mono ?_
        rw [show fmtB 4 = true from rfl]
        rintro e w' ⟨rfl, rfl⟩
        go_wp2_with fail
        refine (rlegal_any 4 s _ HSS.out).mono ?_
        rw [HL.out]
        rintro e w1 ⟨rfl, b1⟩
        have B1 := Lib.hid b1
        clear b1
        go_wp2
        go_ret2
        exact ⟨rfl, B1.out⟩
theorem rsp0 (s : ByteArray) (w : World) (hss : s.size ≤ 100000) (hn : nameB s = true) : Calls Tryd.prog 49 #[.int .i64 0, .string s] w (Two w (spellF 0 s)) := by
  rw [show spellF 0 s = (s, 0) from by unfold spellF; rw [hn]; rfl]
  by_cases h3 : (s.size : Int) < 3
  · exact rsp0n s w hss hn h3
  · cases hm : mark3 s
    · exact rsp0f s w hss hn (by omega) hm
    · exact rsp0t s w hss hn (by omega) hm
theorem rsp1 (s : ByteArray) (w : World) (hss : s.size ≤ 100000) (hn : nameB s = true) : Calls Tryd.prog 49 #[.int .i64 1, .string s] w (Two w (spellF 1 s)) := by
  rw [show spellF 1 s = (s, 0) from by unfold spellF; rw [hn]; rfl]
  by_cases h3 : (s.size : Int) < 3
  · exact rsp1n s w hss hn h3
  · cases hm : mark3 s
    · exact rsp1f s w hss hn (by omega) hm
    · exact rsp1t s w hss hn (by omega) hm
theorem rsp2 (s : ByteArray) (w : World) (hss : s.size ≤ 100000) (hn : nameB s = true) : Calls Tryd.prog 49 #[.int .i64 2, .string s] w (Two w (spellF 2 s)) := by
  by_cases h3 : (s.size : Int) < 3
  · have hm := mark_no s (by omega)
    cases hl : legalB 2 s
    · rw [(show spellF 2 s = (⟨#[120, 95, 95]⟩ ++ ⟨(hexL s.data.toList).toArray⟩, 0) from by unfold spellF; rw [hn, hl, hm]; rfl)]
      exact rsp2nx s w hss hn h3 hl
    · rw [(show spellF 2 s = (s, 0) from by unfold spellF; rw [hn, hl, hm]; rfl)]
      exact rsp2nl s w hss hn h3 hl
  · cases hm : mark3 s
    · cases hl : legalB 2 s
      · rw [(show spellF 2 s = (⟨#[120, 95, 95]⟩ ++ ⟨(hexL s.data.toList).toArray⟩, 0) from by unfold spellF; rw [hn, hl, hm]; rfl)]
        exact rsp2fx s w hss hn (by omega) hm hl
      · rw [(show spellF 2 s = (s, 0) from by unfold spellF; rw [hn, hl, hm]; rfl)]
        exact rsp2fl s w hss hn (by omega) hm hl
    · rw [show spellF 2 s = (⟨#[120, 95, 95]⟩ ++ ⟨(hexL s.data.toList).toArray⟩, 0) from by unfold spellF; rw [hn, hm]; cases legalB 2 s <;> rfl]
      exact rsp2t s w hss hn (by omega) hm
theorem rsp3 (s : ByteArray) (w : World) (hss : s.size ≤ 100000) (hn : nameB s = true) : Calls Tryd.prog 49 #[.int .i64 3, .string s] w (Two w (spellF 3 s)) := by
  by_cases h3 : (s.size : Int) < 3
  · have hm := mark_no s (by omega)
    cases hl : legalB 3 s
    · rw [(show spellF 3 s = (⟨#[120, 95, 95]⟩ ++ ⟨(hexL s.data.toList).toArray⟩, 0) from by unfold spellF; rw [hn, hl, hm]; rfl)]
      exact rsp3nx s w hss hn h3 hl
    · rw [(show spellF 3 s = (s, 0) from by unfold spellF; rw [hn, hl, hm]; rfl)]
      exact rsp3nl s w hss hn h3 hl
  · cases hm : mark3 s
    · cases hl : legalB 3 s
      · rw [(show spellF 3 s = (⟨#[120, 95, 95]⟩ ++ ⟨(hexL s.data.toList).toArray⟩, 0) from by unfold spellF; rw [hn, hl, hm]; rfl)]
        exact rsp3fx s w hss hn (by omega) hm hl
      · rw [(show spellF 3 s = (s, 0) from by unfold spellF; rw [hn, hl, hm]; rfl)]
        exact rsp3fl s w hss hn (by omega) hm hl
    · rw [show spellF 3 s = (⟨#[120, 95, 95]⟩ ++ ⟨(hexL s.data.toList).toArray⟩, 0) from by unfold spellF; rw [hn, hm]; cases legalB 3 s <;> rfl]
      exact rsp3t s w hss hn (by omega) hm

theorem rspell_any (f : Int) (s : ByteArray) (w : World) (hss : s.size ≤ 100000) : Calls Tryd.prog 49 #[.int .i64 f, .string s] w (Two w (spellF f s)) := by
  cases hn : nameB s
  · have hr : spellF f s = (⟨#[]⟩, 4) := by unfold spellF; rw [hn]; rfl
    rw [hr]
    have HN := Lib.hid hn
    have HSS := Lib.hid hss
    clear hn hr
    go_enter Tryd.func49, Tryd.ntmps49
    go_wp2_with fail
    refine (rname_any s _ HSS.out).mono ?_
    rw [HN.out]
    rintro e w' ⟨rfl, rfl⟩
    go_wp2
    go_ret2
    exact ⟨rfl, Below.refl _ _⟩
  · cases hf : fmtB f
    · have hr : spellF f s = (⟨#[]⟩, 9) := by unfold spellF; rw [hn, hf]; rfl
      rw [hr]
      have HN := Lib.hid hn
      have HF := Lib.hid hf
      have HSS := Lib.hid hss
      clear hn hr hf
      go_enter Tryd.func49, Tryd.ntmps49
      go_wp2_with fail
      refine (rname_any s _ HSS.out).mono ?_
      rw [HN.out]
      rintro e w' ⟨rfl, rfl⟩
      go_wp2_with fail
      refine (known_any f _).mono ?_
      rw [HF.out]
      rintro e w' ⟨rfl, rfl⟩
      go_wp2
      go_ret2
      exact ⟨rfl, Below.refl _ _⟩
    · have hfs : f = 0 ∨ f = 1 ∨ f = 2 ∨ f = 3 ∨ f = 4 := by
        unfold fmtB at hf
        simp only [Bool.and_eq_true, decide_eq_true_eq] at hf
        omega
      rcases hfs with rfl | rfl | rfl | rfl | rfl
      · exact rsp0 s w hss hn
      · exact rsp1 s w hss hn
      · exact rsp2 s w hss hn
      · exact rsp3 s w hss hn
      · exact rsp4 s w hss hn
end Go.Proofs.YtfljnhmpelpdaaaDoor
