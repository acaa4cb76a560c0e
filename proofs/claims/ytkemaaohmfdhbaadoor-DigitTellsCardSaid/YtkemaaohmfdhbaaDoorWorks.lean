/- The document's examples. -/
import Derived.Test.YtkemaaohmfdhbaaDoorDelta2
namespace Go.Proofs.YtkemaaohmfdhbaaDoor
open Go.RowKit

theorem delta_ex (w : World) : Calls Tryd.prog 16 #[.int .i64 300] w fun e w' => e = .returned (.tuple #[.string ⟨#[172, 2]⟩, .int .i64 0]) ∧ Below w.heap.size w w' := by
  have h := delta_yes 300 w (by omega)
  rw [show grp 300 = [172, 2] from by rw [grp_big (by omega), grp_small (by omega)]; decide] at h
  exact h
theorem und_ex (w : World) (hg : HG w) : Calls Tryd.prog 18 #[.string ⟨#[172, 2, 120]⟩, .int .i64 0] w fun e w' => e = .returned (.tuple #[.int .i64 300, .int .i64 2, .int .i64 0]) ∧ Below w.heap.size w w' := by
  have h := und_any ⟨#[172, 2, 120]⟩ 0 w (by decide) hg
  rw [show undR (⟨#[172, 2, 120]⟩ : ByteArray).data.toList 0 = (300, 2, 0) from by decide] at h
  exact h
theorem und_ex2 (w : World) (hg : HG w) : Calls Tryd.prog 18 #[.string ⟨#[172]⟩, .int .i64 0] w fun e w' => e = .returned (.tuple #[.int .i64 0, .int .i64 0, .int .i64 10]) ∧ Below w.heap.size w w' := by
  have h := und_any ⟨#[172]⟩ 0 w (by decide) hg
  rw [show undR (⟨#[172]⟩ : ByteArray).data.toList 0 = (0, 0, 10) from by decide] at h
  exact h
theorem put_ex (w : World) (he : HT w) : Calls Tryd.prog 10 #[.int .i64 120] w fun e w' => e = .returned (.tuple #[.string ⟨#[49, 50, 48]⟩, .int .i64 0]) ∧ Below w.heap.size w w' := by
  have h := put_yes 120 w he (by omega)
  rw [show Lib.decDigits 120 = [49, 50, 48] from by decide +kernel] at h
  exact h
theorem put_ex2 (w : World) : Calls Tryd.prog 10 #[.int .i64 (-1)] w fun e w' => e = .returned (.tuple #[.string ⟨#[]⟩, .int .i64 3]) ∧ Below w.heap.size w w' := put_no (-1) w (by omega)
theorem get_ex (w : World) (hg : HG w) : Calls Tryd.prog 12 #[.string ⟨#[97, 49, 50, 48, 44]⟩, .int .i64 1] w fun e w' => e = .returned (.tuple #[.int .i64 120, .int .i64 4, .int .i64 0]) ∧ Below w.heap.size w w' := by
  have h := get_any ⟨#[97, 49, 50, 48, 44]⟩ 1 w (by decide) hg
  rw [show getR (⟨#[97, 49, 50, 48, 44]⟩ : ByteArray).data.toList 1 = (120, 4, 0) from by decide] at h
  exact h
theorem get_ex2 (w : World) (hg : HG w) : Calls Tryd.prog 12 #[.string ⟨#[48, 55]⟩, .int .i64 0] w fun e w' => e = .returned (.tuple #[.int .i64 0, .int .i64 0, .int .i64 3]) ∧ Below w.heap.size w w' := by
  have h := get_any ⟨#[48, 55]⟩ 0 w (by decide) hg
  rw [show getR (⟨#[48, 55]⟩ : ByteArray).data.toList 0 = (0, 0, 3) from by decide] at h
  exact h

set_option maxRecDepth 100000 in
set_option maxHeartbeats 1000000 in
theorem works_any (w : World) (hE : Env w) : Calls Tryd.prog 9 #[] w fun e w' => e = .returned (.bool true) ∧ Below w.heap.size w w' := by
  have H0 := Lib.hid hE
  clear hE
  go_enter Tryd.func9, Tryd.ntmps9
  go_wp2_with fail
  refine (delta_ex _).mono ?_
  rintro e w1 ⟨rfl, b1⟩
  have H1 := Lib.hid (H0.out.below b1)
  have B1 := Lib.hid b1
  clear b1
  go_wp2_with fail
  refine (und_ex _ H1.out.1).mono ?_
  rintro e w2 ⟨rfl, b2⟩
  have H2 := Lib.hid (H1.out.below b2)
  have B2 := Lib.hid (B1.out.trans (b2.mono B1.out.size))
  clear b2
  go_wp2_with fail
  refine (put_ex _ H2.out.2).mono ?_
  rintro e w3 ⟨rfl, b3⟩
  have H3 := Lib.hid (H2.out.below b3)
  have B3 := Lib.hid (B2.out.trans (b3.mono B2.out.size))
  clear b3
  go_wp2_with fail
  refine (get_ex _ H3.out.1).mono ?_
  rintro e w4 ⟨rfl, b4⟩
  have H4 := Lib.hid (H3.out.below b4)
  have B4 := Lib.hid (B3.out.trans (b4.mono B3.out.size))
  clear b4
  go_wp2_with fail
  refine (get_ex2 _ H4.out.1).mono ?_
  rintro e w5 ⟨rfl, b5⟩
  have H5 := Lib.hid (H4.out.below b5)
  have B5 := Lib.hid (B4.out.trans (b5.mono B4.out.size))
  clear b5
  go_wp2_with fail
  refine (und_ex2 _ H5.out.1).mono ?_
  rintro e w6 ⟨rfl, b6⟩
  have B6 := Lib.hid (B5.out.trans (b6.mono B5.out.size))
  clear b6
  go_wp2_with fail
  refine (put_ex2 _).mono ?_
  rintro e w7 ⟨rfl, b7⟩
  have B7 := Lib.hid (B6.out.trans (b7.mono B6.out.size))
  clear b7
  have hcv : (convert 34 9 (.slice (some ⟨w7.heap.size, 0, none⟩) 2 2)).run Tryd.prog (w7.alloc (.cells #[.int .u8 172, .int .u8 2] 5)) = .ok (.string ⟨#[172, 2]⟩) (w7.alloc (.cells #[.int .u8 172, .int .u8 2] 5)) :=
    run_convert_bytes_back (P := Tryd.prog) (w7.alloc (.cells #[.int .u8 172, .int .u8 2] 5)) 34 9 5 ⟨w7.heap.size, 0, none⟩ 2 [172, 2] Tryd.underlying34 Tryd.underlying5 Tryd.underlying9 (fun j hj => by
      have hj2 : j = 0 ∨ j = 1 := by simp at hj; omega
      have := (Blk.new w7 #[.int .u8 172, .int .u8 2] 5).cell j
      rcases hj2 with rfl | rfl
      · exact this
      · exact this)
  go_wp2
  go_ret
  exact ⟨rfl, B7.out.alloc B7.out.size _⟩
end Go.Proofs.YtkemaaohmfdhbaaDoor
