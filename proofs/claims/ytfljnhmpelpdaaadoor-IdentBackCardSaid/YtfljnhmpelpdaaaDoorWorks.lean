/- The document's examples: they hold. -/
import Derived.Test.YtfljnhmpelpdaaaDoorFresh
namespace Go.Proofs.YtfljnhmpelpdaaaDoor
open Go.RowKit

theorem ex1 : spellF 3 ⟨#[97, 40, 49, 41]⟩ = (⟨#[120, 95, 95, 54, 49, 50, 56, 51, 49, 50, 57]⟩, 0) := by kernel_rfl
theorem ex2 : readF 3 ⟨#[120, 95, 95, 54, 49, 50, 56, 51, 49, 50, 57]⟩ = (⟨#[97, 40, 49, 41]⟩, 0) := by kernel_rfl
theorem ex3 : spellF 4 ⟨#[97, 110, 100]⟩ = (⟨#[92, 97, 110, 100, 32]⟩, 0) := by kernel_rfl
theorem ex4 : wordF 4 ⟨2, ⟨#[97, 110, 100]⟩, 0⟩ = (⟨#[97, 110, 100]⟩, 0) := by kernel_rfl
theorem ex5 : wordF 4 ⟨0, ⟨#[97, 110, 100]⟩, 0⟩ = (⟨#[]⟩, 4) := by kernel_rfl
theorem ex6 : spellF 7 ⟨#[97]⟩ = (⟨#[]⟩, 9) := by kernel_rfl
theorem ex7 : nameB ⟨#[97, 40, 49, 41]⟩ = true := by kernel_rfl
theorem ex8 : nameB ⟨#[97, 32, 98]⟩ = false := by kernel_rfl
theorem ex9 : legalB 2 ⟨#[97, 40, 49, 41]⟩ = true := by kernel_rfl
theorem ex10 : legalB 3 ⟨#[97, 40, 49, 41]⟩ = false := by kernel_rfl
theorem ex11 (r : ByteArray) (h : IsFresh [⟨#[110, 50]⟩, ⟨#[110, 49]⟩] ⟨#[110]⟩ r) : r = ⟨#[110, 51]⟩ := by
  obtain ⟨k, h1, h2, rfl, h3, _⟩ := h
  have hk : k = 1 ∨ k = 2 ∨ k = 3 := by simp at h2; omega
  rcases hk with rfl | rfl | rfl
  · exfalso; apply h3; rw [show numS ⟨#[110]⟩ 1 = ⟨#[110, 49]⟩ from by kernel_rfl]; simp
  · exfalso; apply h3; rw [show numS ⟨#[110]⟩ 2 = ⟨#[110, 50]⟩ from by kernel_rfl]; simp
  · exact (show numS ⟨#[110]⟩ 3 = ⟨#[110, 51]⟩ from by kernel_rfl)
theorem spell_ex (f : Int) (s r : ByteArray) (n : Int) (hs : s.size ≤ 100000) (h : spellF f s = (r, n)) (w : World) : Calls Tryd.prog 15 #[.int .i64 f, .string s] w fun e w' => e = .returned (.tuple #[.string r, .int .i64 n]) ∧ Below w.heap.size w w' := by
  have := spell_any f s w hs
  rw [h] at this
  exact this
theorem read_ex (f : Int) (s r : ByteArray) (n : Int) (hs : s.size ≤ 100000) (h : readF f s = (r, n)) (w : World) : Calls Tryd.prog 16 #[.int .i64 f, .string s] w fun e w' => e = .returned (.tuple #[.string r, .int .i64 n]) ∧ Below w.heap.size w w' := by
  have := read_any f s w hs
  rw [h] at this
  exact this
theorem word_ex (f k p : Int) (t r : ByteArray) (n : Int) (hs : t.size ≤ 100000) (h : wordF f ⟨k, t, p⟩ = (r, n)) (w : World) : Calls Tryd.prog 10 #[.int .i64 f, .agg #[.int .i64 k, .string t, .int .i64 p]] w fun e w' => e = .returned (.tuple #[.string r, .int .i64 n]) ∧ Below w.heap.size w w' := by
  have := word_any f ⟨k, t, p⟩ w hs
  rw [h] at this
  exact this
theorem legal_ex (f : Int) (s : ByteArray) (r : Bool) (h : legalB f s = r) (w : World) : Calls Tryd.prog 20 #[.int .i64 f, .string s] w fun e w' => e = .returned (.bool r) ∧ Below w.heap.size w w' := by
  have := legal_any f s w
  rw [h] at this
  exact this
theorem name_ex (s : ByteArray) (r : Bool) (h : nameB s = r) (w : World) : Calls Tryd.prog 14 #[.string s] w fun e w' => e = .returned (.bool r) ∧ w = w' := by
  have := name_any s w
  rw [h] at this
  exact this
theorem fresh_ex (B : Nat) (w : World) (h : Blk w B #[.string ⟨#[110, 50]⟩, .string ⟨#[110, 49]⟩] 9) : Calls Tryd.prog 13 #[.slice (some ⟨B, 0, none⟩) 2 2, .string ⟨#[110]⟩] w fun e w' => e = .returned (.string ⟨#[110, 51]⟩) ∧ Below w.heap.size w w' := by
  refine (fresh_any [⟨#[110, 50]⟩, ⟨#[110, 49]⟩] _ ⟨#[110]⟩ w (by decide) (fun y hy => by
    simp at hy
    rcases hy with rfl | rfl <;> (unfold maxLen; decide)) (by decide) (Lst.blk (t := 9) h rfl)).mono ?_
  rintro e w' ⟨r, rfl, hf, hb⟩
  rw [ex11 r hf]
  exact ⟨rfl, hb⟩

set_option maxRecDepth 100000 in
set_option maxHeartbeats 2000000 in
theorem works_any (w : World) : Calls Tryd.prog 9 #[] w fun e w' => e = .returned (.bool true) ∧ Below w.heap.size w w' := by
  go_enter Tryd.func9, Tryd.ntmps9
  go_wp2_with fail
  refine (spell_ex 3 ⟨#[97, 40, 49, 41]⟩ _ _ (by decide) ex1 _).mono ?_
  rintro e w1 ⟨rfl, b1⟩
  have B1 := Lib.hid (b1)
  clear b1
  go_wp2_with fail
  refine (read_ex 3 ⟨#[120, 95, 95, 54, 49, 50, 56, 51, 49, 50, 57]⟩ _ _ (by decide) ex2 _).mono ?_
  rintro e w2 ⟨rfl, b2⟩
  have B2 := Lib.hid (B1.out.trans (b2.mono B1.out.size))
  clear b2
  go_wp2_with fail
  refine (spell_ex 4 ⟨#[97, 110, 100]⟩ _ _ (by decide) ex3 _).mono ?_
  rintro e w3 ⟨rfl, b3⟩
  have B3 := Lib.hid (B2.out.trans (b3.mono B2.out.size))
  clear b3
  go_wp2_with fail
  refine (word_ex 4 2 0 ⟨#[97, 110, 100]⟩ _ _ (by decide) ex4 _).mono ?_
  rintro e w4 ⟨rfl, b4⟩
  have B4 := Lib.hid (B3.out.trans (b4.mono B3.out.size))
  clear b4
  go_wp2_with fail
  refine (word_ex 4 0 0 ⟨#[97, 110, 100]⟩ _ _ (by decide) ex5 _).mono ?_
  rintro e w5 ⟨rfl, b5⟩
  have B5 := Lib.hid (B4.out.trans (b5.mono B4.out.size))
  clear b5
  go_wp2_with fail
  refine (spell_ex 7 ⟨#[97]⟩ _ _ (by decide) ex6 _).mono ?_
  rintro e w6 ⟨rfl, b6⟩
  have B6 := Lib.hid (B5.out.trans (b6.mono B5.out.size))
  clear b6
  go_wp2_with fail
  refine (name_ex ⟨#[97, 40, 49, 41]⟩ _ ex7 _).mono ?_
  rintro e w' ⟨rfl, rfl⟩
  go_wp2_with fail
  refine (name_ex ⟨#[97, 32, 98]⟩ _ ex8 _).mono ?_
  rintro e w' ⟨rfl, rfl⟩
  go_wp2_with fail
  refine (legal_ex 2 ⟨#[97, 40, 49, 41]⟩ _ ex9 _).mono ?_
  rintro e w7 ⟨rfl, b7⟩
  have B7 := Lib.hid (B6.out.trans (b7.mono B6.out.size))
  clear b7
  go_wp2_with fail
  refine (legal_ex 3 ⟨#[97, 40, 49, 41]⟩ _ ex10 _).mono ?_
  rintro e w8 ⟨rfl, b8⟩
  have B8 := Lib.hid (B7.out.trans (b8.mono B7.out.size))
  clear b8
  go_wp2_with fail
  refine (fresh_ex _ _ (Blk.new w8 #[.string ⟨#[110, 50]⟩, .string ⟨#[110, 49]⟩] 9)).mono ?_
  rintro e w9 ⟨rfl, b9⟩
  have B9 := Lib.hid ((B8.out.alloc B8.out.size _).trans (b9.mono (by have := B8.out.size; simp; omega)))
  clear b9
  go_wp2
  go_ret
  exact ⟨rfl, B9.out⟩
end Go.Proofs.YtfljnhmpelpdaaaDoor
