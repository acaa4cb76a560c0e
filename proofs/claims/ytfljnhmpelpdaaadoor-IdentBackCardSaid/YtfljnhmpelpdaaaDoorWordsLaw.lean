/- IdentWords: the word of a token and a fresh name are the document's. -/
import Derived.Test.YtfljnhmpelpdaaaDoorRef6
namespace Go.Proofs.YtfljnhmpelpdaaaDoor
open Go.RowKit

set_option maxRecDepth 100000 in
set_option maxHeartbeats 1000000 in
theorem words_big (f k p : Int) (t : ByteArray) (used : List ByteArray) (v : Value) (stem : ByteArray) (w : World) (hv : Lst stc w v used) (h : (120 : Int) < (t.size : Int) ∨ (30 : Int) < (used.length : Int) ∨ (120 : Int) < (stem.size : Int)) :
    Calls Tryd.prog 3 #[.int .i64 f, .agg #[.int .i64 k, .string t, .int .i64 p], v, .string stem] w fun e w' => e = .returned (.bool true) ∧ Below w.heap.size w w' := by
  obtain ⟨b, c, rfl⟩ := hv.slice
  clear hv
  have HB := Lib.hid ((Below.refl w.heap.size w).alloc (Nat.le_refl _) (.cells #[.int .i64 k, .string t, .int .i64 p] 23))
  have hsz : w.heap.size ≤ (w.alloc (.cells #[.int .i64 k, .string t, .int .i64 p] 23)).heap.size := by simp
  by_cases h1 : (120 : Int) < (t.size : Int)
  · clear h
    go_enter Tryd.func3, Tryd.ntmps3
    go_wp2_with fail
    refine (works_any _).mono ?_
    rintro e w1 ⟨rfl, b1⟩
    have hc0 := b1.cell (p := ⟨w.heap.size, 0, none⟩) (by simp)
    have hc1 := b1.cell (p := ⟨w.heap.size, 1, none⟩) (by simp)
    have hc2 := b1.cell (p := ⟨w.heap.size, 2, none⟩) (by simp)
    simp at hc0 hc1 hc2
    have B1 := Lib.hid (HB.out.trans (b1.mono hsz))
    clear b1 hc0 hc2
    go_wp2
    go_ret
    exact ⟨rfl, B1.out⟩
  · have h1' : decide ((120 : Int) < (t.size : Int)) = false := decide_eq_false h1
    by_cases h2 : (30 : Int) < (used.length : Int)
    · clear h h1
      go_enter Tryd.func3, Tryd.ntmps3
      go_wp2_with fail
      refine (works_any _).mono ?_
      rintro e w1 ⟨rfl, b1⟩
      have hc0 := b1.cell (p := ⟨w.heap.size, 0, none⟩) (by simp)
      have hc1 := b1.cell (p := ⟨w.heap.size, 1, none⟩) (by simp)
      have hc2 := b1.cell (p := ⟨w.heap.size, 2, none⟩) (by simp)
      simp at hc0 hc1 hc2
      have B1 := Lib.hid (HB.out.trans (b1.mono hsz))
      clear b1 hc0 hc2
      go_wp2
      go_ret
      exact ⟨rfl, B1.out⟩
    · have h2' : decide ((30 : Int) < (used.length : Int)) = false := decide_eq_false h2
      have h3 : (120 : Int) < (stem.size : Int) := by rcases h with h | h | h <;> first | exact absurd h h1 | exact absurd h h2 | exact h
      clear h h1 h2
      go_enter Tryd.func3, Tryd.ntmps3
      go_wp2_with fail
      refine (works_any _).mono ?_
      rintro e w1 ⟨rfl, b1⟩
      have hc0 := b1.cell (p := ⟨w.heap.size, 0, none⟩) (by simp)
      have hc1 := b1.cell (p := ⟨w.heap.size, 1, none⟩) (by simp)
      have hc2 := b1.cell (p := ⟨w.heap.size, 2, none⟩) (by simp)
      simp at hc0 hc1 hc2
      have B1 := Lib.hid (HB.out.trans (b1.mono hsz))
      clear b1 hc0 hc2
      go_wp2
      go_ret
      exact ⟨rfl, B1.out⟩

set_option maxRecDepth 100000 in
set_option maxHeartbeats 2000000 in
theorem words_in (f k p : Int) (t : ByteArray) (used : List ByteArray) (v : Value) (stem : ByteArray) (w : World) (hv : Lst stc w v used) (zv : ∀ x ∈ used, x.size ≤ maxLen) (h1 : ¬ (120 : Int) < (t.size : Int)) (h2 : ¬ (30 : Int) < (used.length : Int)) (h3 : ¬ (120 : Int) < (stem.size : Int)) :
    Calls Tryd.prog 3 #[.int .i64 f, .agg #[.int .i64 k, .string t, .int .i64 p], v, .string stem] w fun e w' => e = .returned (.bool true) ∧ Below w.heap.size w w' := by
  have HB := Lib.hid ((Below.refl w.heap.size w).alloc (Nat.le_refl _) (.cells #[.int .i64 k, .string t, .int .i64 p] 23))
  have hsz : w.heap.size ≤ (w.alloc (.cells #[.int .i64 k, .string t, .int .i64 p] 23)).heap.size := by simp
  have HV := Lib.hid hv
  obtain ⟨b, c, rfl⟩ := hv.slice
  clear hv
  have ZV := Lib.hid zv
  have h1' : decide ((120 : Int) < (t.size : Int)) = false := decide_eq_false h1
  have h2' : decide ((30 : Int) < (used.length : Int)) = false := decide_eq_false h2
  have h3' : decide ((120 : Int) < (stem.size : Int)) = false := decide_eq_false h3
  clear zv
  go_enter Tryd.func3, Tryd.ntmps3
  go_wp2_with fail
  refine (works_any _).mono ?_
  rintro e w1 ⟨rfl, b1⟩
  have hc0 := b1.cell (p := ⟨w.heap.size, 0, none⟩) (by simp)
  have hc1 := b1.cell (p := ⟨w.heap.size, 1, none⟩) (by simp)
  have hc2 := b1.cell (p := ⟨w.heap.size, 2, none⟩) (by simp)
  simp at hc0 hc1 hc2
  have B1 := Lib.hid (HB.out.trans (b1.mono hsz))
  have V1 := Lib.hid (HV.out.below B1.out)
  have S1 := Lib.hid (show w.heap.size < w1.heap.size from by have := b1.size; simp at this; omega)
  clear b1
  go_wp2
  go_loop [10] (fun i => ∃ k : Nat, k ≤ used.length ∧ i = .int .i64 (k : Int)) (fun i => used.length - (intOf i).toNat)
  case atStart => exact ⟨0, by omega, rfl⟩
  case round =>
    obtain ⟨j, hj, rfl⟩ := hrel
    by_cases hlt : j < used.length
    · have hlt' : (j : Int) < (used.length : Int) := by omega
      obtain ⟨g, o, cc, x, hx, hvv, hg, hc⟩ := V1.out.at_ stc_len hlt
      injection hvv with hb _ hcc
      subst hb hcc
      have c0 := hc 0 (by omega)
      simp [stc] at c0
      by_cases hx120 : (120 : Int) < (x.size : Int)
      · clear hc hx
        go_wp2
        go_ret
        exact ⟨rfl, B1.out⟩
      · have hx' : decide ((120 : Int) < (x.size : Int)) = false := decide_eq_false hx120
        clear hc hx
        go_wp2
        refine ⟨⟨j + 1, by omega, by go_num⟩, ?_⟩
        simp [intOf]; omega
    · have hge : (used.length : Int) ≤ (j : Int) := by omega
      go_wp2_with fail
      refine (word_any f ⟨k, t, p⟩ _ (by simp only []; omega)).mono ?_
      rintro e w2 ⟨rfl, b2⟩
      have hd0 := b2.cell (p := ⟨w.heap.size, 0, none⟩) S1.out
      have hd1 := b2.cell (p := ⟨w.heap.size, 1, none⟩) S1.out
      have hd2 := b2.cell (p := ⟨w.heap.size, 2, none⟩) S1.out
      rw [hc0] at hd0
      rw [hc1] at hd1
      rw [hc2] at hd2
      have B2 := Lib.hid (B1.out.trans (b2.mono B1.out.size))
      clear b2 hc0 hc1 hc2
      obtain ⟨⟨r1, r2⟩, hr⟩ : ∃ r : ByteArray × Int, wordF f ⟨k, t, p⟩ = r := ⟨_, rfl⟩
      rw [hr]
      have HR := Lib.hid hr
      clear hr
      simp only []
      go_wp2_with fail
      refine (rword_any f ⟨k, t, p⟩ _ (by simp only []; omega)).mono ?_
      rw [HR.out]
      rintro e w3 ⟨rfl, b3⟩
      have B3 := Lib.hid (B2.out.trans (b3.mono B2.out.size))
      clear b3 hd0 hd1 hd2
      have V3 := Lib.hid (HV.out.below B3.out)
      simp only []
      go_wp2_with fail
      refine (rfresh_any used _ stem _ (by omega) (by omega) V3.out).mono ?_
      rintro e w4 ⟨m, rfl, fm, b4⟩
      have B4 := Lib.hid (B3.out.trans (b4.mono B3.out.size))
      have V4 := Lib.hid (HV.out.below B4.out)
      have FM := Lib.hid fm
      clear b4 fm
      have hr1 := tl_self r1
      go_wp2_with fail
      refine (fresh_any used _ stem _ (by omega) ZV.out (by omega) V4.out).mono ?_
      rintro e w5 ⟨m', rfl, fm, b5⟩
      have B5 := Lib.hid (B4.out.trans (b5.mono B4.out.size))
      obtain rfl := fresh_one used stem m' m fm FM.out
      clear b5 fm FM
      have hm := tl_self m'
      go_wp2
      go_ret
      exact ⟨rfl, B5.out⟩

theorem law_words (f : Int) (x : Ti) (used : List ByteArray) (v : Value) (stem : ByteArray) (w : World) (hv : Lst stc w v used) (zv : ∀ y ∈ used, y.size ≤ maxLen) :
    Calls Tryd.prog 3 #[.int .i64 f, .agg #[.int .i64 x.k, .string x.t, .int .i64 x.p], v, .string stem] w fun e w' => e = .returned (.bool true) ∧ Below w.heap.size w w' := by
  by_cases h1 : (120 : Int) < (x.t.size : Int)
  · exact words_big f x.k x.p x.t used v stem w hv (.inl h1)
  · by_cases h2 : (30 : Int) < (used.length : Int)
    · exact words_big f x.k x.p x.t used v stem w hv (.inr (.inl h2))
    · by_cases h3 : (120 : Int) < (stem.size : Int)
      · exact words_big f x.k x.p x.t used v stem w hv (.inr (.inr h3))
      · exact words_in f x.k x.p x.t used v stem w hv zv h1 h2 h3
end Go.Proofs.YtfljnhmpelpdaaaDoor
