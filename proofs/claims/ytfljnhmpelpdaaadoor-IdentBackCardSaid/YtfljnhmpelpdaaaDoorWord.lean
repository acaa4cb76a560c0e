/- Word: the name that a token is. -/
import Derived.Test.YtfljnhmpelpdaaaDoorRead
namespace Go.Proofs.YtfljnhmpelpdaaaDoor
open Go.RowKit

structure Ti where
  k : Int
  t : ByteArray
  p : Int
def tic (x : Ti) : List Value := [.int .i64 x.k, .string x.t, .int .i64 x.p]
theorem tic_len (x : Ti) : (tic x).length = 3 := rfl
def wordF (f : Int) (x : Ti) : ByteArray × Int :=
  if ((x.k != 0) && !((f == 4) && (x.k == 2))) = true then (⟨#[]⟩, 4) else if ((f == 4) && ((x.k == 0) && !legalB f x.t)) = true then (⟨#[]⟩, 4) else readF f x.t

set_option maxRecDepth 100000 in
set_option maxHeartbeats 1000000 in
theorem word_any (f : Int) (x : Ti) (w : World) (hs : x.t.size ≤ 100000) : Calls Tryd.prog 10 #[.int .i64 f, .agg #[.int .i64 x.k, .string x.t, .int .i64 x.p]] w (Two w (wordF f x)) := by
  obtain ⟨k, t, p⟩ := x
  simp only [] at hs ⊢
  have HB := Lib.hid ((Below.refl w.heap.size w).alloc (Nat.le_refl _) (.cells #[.int .i64 k, .string t, .int .i64 p] 23))
  have hsz : w.heap.size ≤ (w.alloc (.cells #[.int .i64 k, .string t, .int .i64 p] 23)).heap.size := by simp
  by_cases hf : f = 4
  · have hfb : (f == 4) = true := by rw [beq_iff_eq]; exact hf
    have hfn : (f != 4) = false := by rw [bne, hfb]; rfl
    by_cases h0 : k = 0
    · have h0b : (k == 0) = true := by rw [beq_iff_eq]; exact h0
      have h0n : (k != 0) = false := by rw [bne, h0b]; rfl
      cases hl : legalB f t
      · have hr : wordF f ⟨k, t, p⟩ = (⟨#[]⟩, 4) := by unfold wordF; simp only [h0n, hfb, h0b, hl]; rfl
        rw [hr]
        have HL := Lib.hid hl
        clear hl hr h0 hf
        go_enter Tryd.func10, Tryd.ntmps10
        go_wp2_with fail
        refine (legal_any f t _).mono ?_
        rw [HL.out]
        rintro e w1 ⟨rfl, b1⟩
        have B1 := Lib.hid (HB.out.trans (b1.mono hsz))
        clear b1
        go_wp2
        go_ret2
        exact ⟨rfl, B1.out⟩
      · have hr : wordF f ⟨k, t, p⟩ = readF f t := by unfold wordF; simp only [h0n, hfb, h0b, hl]; rfl
        rw [hr]
        have HL := Lib.hid hl
        clear hl hr h0 hf
        go_enter Tryd.func10, Tryd.ntmps10
        go_wp2_with fail
        refine (legal_any f t _).mono ?_
        rw [HL.out]
        rintro e w1 ⟨rfl, b0⟩
        have B0 := Lib.hid (HB.out.trans (b0.mono hsz))
        have hc1 := b0.cell (p := ⟨w.heap.size, 1, none⟩) (by simp)
        simp at hc1
        clear b0
        go_wp2_with fail
        refine (read_any f t _ hs).mono ?_
        rintro e w2 ⟨rfl, b1⟩
        have B1 := Lib.hid (B0.out.trans (b1.mono B0.out.size))
        clear b1
        go_wp2
        go_ret2
        exact ⟨rfl, B1.out⟩
    · have h0b : (k == 0) = false := by rw [beq_eq_false_iff_ne]; exact h0
      have h0n : (k != 0) = true := by rw [bne, h0b]; rfl
      by_cases h2 : k = 2
      · have h2b : (k == 2) = true := by rw [beq_iff_eq]; exact h2
        have hr : wordF f ⟨k, t, p⟩ = readF f t := by unfold wordF; simp only [h0n, hfb, h0b, h2b]; rfl
        rw [hr]
        clear hr h0 h2 hf
        go_enter Tryd.func10, Tryd.ntmps10
        go_wp2_with fail
        refine (read_any f t _ hs).mono ?_
        rintro e w1 ⟨rfl, b1⟩
        have B1 := Lib.hid (HB.out.trans (b1.mono hsz))
        clear b1
        go_wp2
        go_ret2
        exact ⟨rfl, B1.out⟩
      · have h2b : (k == 2) = false := by rw [beq_eq_false_iff_ne]; exact h2
        have hr : wordF f ⟨k, t, p⟩ = (⟨#[]⟩, 4) := by unfold wordF; simp only [h0n, hfb, h0b, h2b]; rfl
        rw [hr]
        clear hr h0 h2 hf
        go_enter Tryd.func10, Tryd.ntmps10
        go_wp2
        go_ret2
        exact ⟨rfl, HB.out⟩
  · have hfb : (f == 4) = false := by rw [beq_eq_false_iff_ne]; exact hf
    have hfn : (f != 4) = true := by rw [bne, hfb]; rfl
    by_cases h0 : k = 0
    · have h0b : (k == 0) = true := by rw [beq_iff_eq]; exact h0
      have h0n : (k != 0) = false := by rw [bne, h0b]; rfl
      have hr : wordF f ⟨k, t, p⟩ = readF f t := by unfold wordF; simp only [h0n, hfb, h0b]; rfl
      rw [hr]
      clear hr h0 hf
      go_enter Tryd.func10, Tryd.ntmps10
      go_wp2_with fail
      refine (read_any f t _ hs).mono ?_
      rintro e w1 ⟨rfl, b1⟩
      have B1 := Lib.hid (HB.out.trans (b1.mono hsz))
      clear b1
      go_wp2
      go_ret2
      exact ⟨rfl, B1.out⟩
    · have h0b : (k == 0) = false := by rw [beq_eq_false_iff_ne]; exact h0
      have h0n : (k != 0) = true := by rw [bne, h0b]; rfl
      have hr : wordF f ⟨k, t, p⟩ = (⟨#[]⟩, 4) := by unfold wordF; simp only [h0n, hfb, h0b]; rfl
      rw [hr]
      clear hr h0 hf
      go_enter Tryd.func10, Tryd.ntmps10
      go_wp2
      go_ret2
      exact ⟨rfl, HB.out⟩
end Go.Proofs.YtfljnhmpelpdaaaDoor
