/- The document's example. -/
import Derived.Test.YtkemaaohmfdhbaaLines
import Derived.Test.YtkemaaohmfdhbaaFails
namespace Go.Proofs.Ytkemaaohmfdhbaa
open Go.RowKit

def exS : ByteArray := ⟨#[97, 98, 10, 99]⟩

theorem place_ex (w : World) : Calls Try.prog 10 #[.string ⟨#[97, 98, 10, 99]⟩, .int .i64 3] w fun e w' => e = .returned (.tuple #[.int .i64 2, .int .i64 1]) ∧ Below w.heap.size w w' := by
  have h := place_any ⟨#[97, 98, 10, 99]⟩ 3 w (by decide)
  rw [show pl (⟨#[97, 98, 10, 99]⟩ : ByteArray).data.toList 3 = (2, 1) from by decide] at h
  exact h

theorem at_ex (w : World) : Calls Try.prog 12 #[.string ⟨#[97, 98, 10, 99]⟩, .int .i64 2, .int .i64 1] w fun e w' => e = .returned (.tuple #[.int .i64 3, .bool true]) ∧ Below w.heap.size w w' := by
  refine (at_any ⟨#[97, 98, 10, 99]⟩ 2 1 w (by decide)).mono ?_
  rintro e w' ⟨⟨k, rfl, hk, hm, -⟩ | ⟨rfl, hno⟩, hb⟩
  · refine ⟨?_, hb⟩
    have : k = 3 := by
      have hk' : k ≤ 4 := hk
      have : k = 0 ∨ k = 1 ∨ k = 2 ∨ k = 3 ∨ k = 4 := by omega
      rcases this with rfl | rfl | rfl | rfl | rfl
      · exact absurd hm (by decide)
      · exact absurd hm (by decide)
      · exact absurd hm (by decide)
      · rfl
      · exact absurd hm (by decide)
    rw [this]; rfl
  · exact absurd (show mv (1, 1) (List.take 3 (⟨#[97, 98, 10, 99]⟩ : ByteArray).data.toList) = (2, 1) by decide) (hno 3 (by decide))

theorem at_no (w : World) : Calls Try.prog 12 #[.string ⟨#[97, 98, 10, 99]⟩, .int .i64 1, .int .i64 9] w fun e w' => e = .returned (.tuple #[.int .i64 0, .bool false]) ∧ Below w.heap.size w w' := by
  refine (at_any ⟨#[97, 98, 10, 99]⟩ 1 9 w (by decide)).mono ?_
  rintro e w' ⟨⟨k, rfl, hk, hm, -⟩ | ⟨rfl, hno⟩, hb⟩
  · exfalso
    have hk' : k ≤ 4 := hk
    have : k = 0 ∨ k = 1 ∨ k = 2 ∨ k = 3 ∨ k = 4 := by omega
    rcases this with rfl | rfl | rfl | rfl | rfl <;> exact absurd hm (by decide)
  · exact ⟨rfl, hb⟩

/-- two lines; the second one is 'c' -/
def TwoLines (w : World) (e : Ending) (w' : World) : Prop :=
  ∃ g cap, e = .returned (.slice (some ⟨g, 0, none⟩) 2 cap) ∧ g < w'.heap.size ∧ w'.cell? ⟨g, 1, none⟩ = some (.string ⟨#[99]⟩) ∧ Below w.heap.size w w'

theorem lines_ex (w : World) : Calls Try.prog 16 #[.string ⟨#[97, 98, 10, 99]⟩] w (TwoLines w) := by
  refine (lines_any ⟨#[97, 98, 10, 99]⟩ w (by decide)).mono ?_
  rintro e w' ⟨v, xs, rfl, hx, hr, hb⟩
  rw [show lns (⟨#[97, 98, 10, 99]⟩ : ByteArray).data.toList = [[97, 98], [99]] from by decide] at hx
  obtain ⟨x, y, rfl⟩ : ∃ x y, xs = [x, y] := by
    have : xs.length = 2 := by simpa [tx] using congrArg List.length hx
    match xs, this with
    | [x, y], _ => exact ⟨x, y, rfl⟩
  simp [tx] at hx
  obtain ⟨_, hy⟩ := hx
  obtain rfl : y = ⟨#[99]⟩ := by
    cases y with | mk d => simp at hy ⊢; cases d; simp_all
  obtain ⟨g, cap, rfl⟩ := ownsRow_succ hr
  have hc := hr.cells (g := g) rfl 1 _ rfl
  exact ⟨g, cap, rfl, (hr.lt g rfl).2, hc, hb⟩

theorem fail_ex (w : World) : Calls Try.prog 15 #[.string ⟨#[97, 98, 10, 99]⟩, .int .i64 4, .int .i64 4] w fun e w' => e = .returned (.agg #[.int .i64 4, .int .i64 2, .int .i64 2]) ∧ Below w.heap.size w w' := by
  have h := fail_any ⟨#[97, 98, 10, 99]⟩ 4 4 w (by decide)
  rw [show flp (⟨#[97, 98, 10, 99]⟩ : ByteArray).data.toList 4 4 = (4, 2, 2) from by decide] at h
  exact h
theorem fail_no (w : World) : Calls Try.prog 15 #[.string ⟨#[97, 98, 10, 99]⟩, .int .i64 4, .int .i64 0] w fun e w' => e = .returned (.agg #[.int .i64 0, .int .i64 0, .int .i64 0]) ∧ Below w.heap.size w w' := by
  have h := fail_any ⟨#[97, 98, 10, 99]⟩ 4 0 w (by decide)
  rw [show flp (⟨#[97, 98, 10, 99]⟩ : ByteArray).data.toList 4 0 = (0, 0, 0) from by decide] at h
  exact h
theorem move_ex (w : World) : Calls Try.prog 19 #[.int .i64 3, .int .i64 5, .string ⟨#[120, 10, 121, 122]⟩] w fun e w' => e = .returned (.tuple #[.int .i64 4, .int .i64 3]) ∧ Below w.heap.size w w' := by
  have h := move_any 3 5 ⟨#[120, 10, 121, 122]⟩ w (by decide) (by omega) (by omega) (by omega) (by omega)
  rw [show mv (3, 5) (⟨#[120, 10, 121, 122]⟩ : ByteArray).data.toList = (4, 3) from by decide] at h
  exact h

set_option maxHeartbeats 1000000 in
theorem works_any (w : World) : Calls Try.prog 9 #[] w fun e w' => e = .returned (.bool true) ∧ Below w.heap.size w w' := by
  go_enter Try.func9, Try.ntmps9
  go_wp2_with fail
  refine (place_ex _).mono ?_
  rintro e w1 ⟨rfl, b1⟩
  go_wp2_with fail
  refine (at_ex _).mono ?_
  rintro e w2 ⟨rfl, b2⟩
  go_wp2_with fail
  refine (at_no _).mono ?_
  rintro e w3 ⟨rfl, b3⟩
  go_wp2_with fail
  refine (lines_ex _).mono ?_
  rintro e w4 ⟨g, cap, rfl, hg, hc, b4⟩
  go_wp2_with fail
  refine (fail_ex _).mono ?_
  rintro e w5 ⟨rfl, b5⟩
  go_wp2_with fail
  refine (fail_no _).mono ?_
  rintro e w6 ⟨rfl, b6⟩
  go_wp2_with fail
  refine (move_ex _).mono ?_
  rintro e w7 ⟨rfl, b7⟩
  have z5 := b5.size
  have z6 := b6.size
  have z7 := b7.size
  simp at z6 z7
  have k5 := ((Blk.new w5 #[.int .i64 4, .int .i64 2, .int .i64 2] 33).below b6 (by simp)).alloc (.cells #[.int .i64 0, .int .i64 0, .int .i64 0] 33)
  have k6 := Blk.new w6 #[.int .i64 0, .int .i64 0, .int .i64 0] 33
  have k5' := k5.below b7 (by simp; omega)
  have k6' := k6.below b7 (by simp)
  have a0 := k5'.cell 0
  have a1 := k5'.cell 1
  have a2 := k5'.cell 2
  have c0 := k6'.cell 0
  have c1 := k6'.cell 1
  have c2 := k6'.cell 2
  simp at a0 a1 a2 c0 c1 c2
  have hBB : Below w4.heap.size w4 w7 := by
    refine ((((b5.alloc (by omega) _).trans (b6.mono (by simp; omega))).alloc (by omega) _).trans (b7.mono (by simp; omega)))
  have hg2 : w7.cell? ⟨g, 1, none⟩ = some (.string ⟨#[99]⟩) := (hBB.cell (p := ⟨g, 1, none⟩) hg).trans hc
  have HB := Lib.hid (((b1.trans (b2.mono b1.size)).trans (b3.mono (by have := b1.size; have := b2.size; omega))).trans (b4.mono (by have := b1.size; have := b2.size; have := b3.size; omega)) |>.trans (hBB.mono (by have := b1.size; have := b2.size; have := b3.size; have := b4.size; omega)))
  clear k5 k6 k5' k6' hc hBB b1 b2 b3 b4 b5 b6 b7
  go_wp2
  go_ret
  exact ⟨rfl, HB.out⟩
end Go.Proofs.Ytkemaaohmfdhbaa
