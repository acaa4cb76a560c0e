/- SpotEnds: a place below 0, and one behind the end. -/
import Derived.Test.YtkemaaohmfdhbaaOrder
namespace Go.Proofs.Ytkemaaohmfdhbaa
open Go.RowKit

theorem ends_big (s : ByteArray) (a e : Int) (w : World) (hs : 200 < s.size) (hm : s.size ≤ maxLen) :
    Calls Try.prog 8 #[.string s, .int .i64 a, .int .i64 e] w fun en w' => en = .returned (.bool true) ∧ Below w.heap.size w w' := by
  unfold maxLen at hm
  go_enter Try.func8, Try.ntmps8
  go_wp2_with fail
  refine (works_any _).mono ?_
  rintro en w1 ⟨rfl, b1⟩
  go_wp2
  go_ret
  exact ⟨rfl, b1⟩

set_option maxHeartbeats 1000000 in
theorem ends_any (s : ByteArray) (a e : Int) (w : World) (hs : s.size ≤ 200) :
    Calls Try.prog 8 #[.string s, .int .i64 a, .int .i64 e] w fun en w' => en = .returned (.bool true) ∧ Below w.heap.size w w' := by
  have hp0 : a ≤ 0 → pl s.data.toList a = (1, 1) := fun h => by
    rw [pl, show a.toNat = 0 from by omega]; rfl
  have hp1 : (s.size : Int) ≤ a → pl s.data.toList a = pl s.data.toList (s.size : Int) := fun h => by
    rw [pl, pl, List.take_of_length_le (by simp; omega), List.take_of_length_le (by simp)]
  have H0 := Lib.hid hp0
  have H1 := Lib.hid hp1
  clear hp0 hp1
  by_cases he : e = 0
  · subst he
    go_enter Try.func8, Try.ntmps8
    go_wp2_with fail
    refine (works_any _).mono ?_
    rintro en w1 ⟨rfl, b1⟩
    go_wp2_with fail
    refine (place_any s _ _ (by omega)).mono ?_
    rintro en w2 ⟨rfl, b2⟩
    go_wp2_with fail
    refine (place_any s _ _ (by omega)).mono ?_
    rintro en w3 ⟨rfl, b3⟩
    go_wp2_with fail
    refine (fail_any s _ _ _ (by omega)).mono ?_
    rintro en w4 ⟨rfl, b4⟩
    have hfl : flp s.data.toList a 0 = (0, 0, 0) := by simp [flp]
    rw [hfl]
    have hfin : Below w.heap.size w w4 := ((b1.trans (b2.mono b1.size)).trans (b3.mono (Nat.le_trans b1.size b2.size))).trans (b4.mono (Nat.le_trans (Nat.le_trans b1.size b2.size) b3.size))
    have HF := Lib.hid hfin
    have hz := hfin.size
    clear hfin b1 b2 b3 b4 hfl
    go_wp2
    go_ret
    exact ⟨rfl, HF.out.alloc hz _⟩
  · have ht : (e == (0 : Int)) = false := by simpa using he
    have HE := Lib.hid he
    clear he
    go_enter Try.func8, Try.ntmps8
    go_wp2_with fail
    refine (works_any _).mono ?_
    rintro en w1 ⟨rfl, b1⟩
    go_wp2_with fail
    refine (place_any s _ _ (by omega)).mono ?_
    rintro en w2 ⟨rfl, b2⟩
    go_wp2_with fail
    refine (place_any s _ _ (by omega)).mono ?_
    rintro en w3 ⟨rfl, b3⟩
    go_wp2_with fail
    refine (fail_any s _ _ _ (by omega)).mono ?_
    rintro en w4 ⟨rfl, b4⟩
    have hfl : flp s.data.toList a e = (e, (pl s.data.toList a).1, (pl s.data.toList a).2) := by simp [flp, HE.out]
    rw [hfl]
    have hfin : Below w.heap.size w w4 := ((b1.trans (b2.mono b1.size)).trans (b3.mono (Nat.le_trans b1.size b2.size))).trans (b4.mono (Nat.le_trans (Nat.le_trans b1.size b2.size) b3.size))
    have HF := Lib.hid hfin
    have hz := hfin.size
    clear hfin b1 b2 b3 b4 hfl
    by_cases ha : 0 < a
    · by_cases hb : a < (s.size : Int)
      · clear H0 H1
        go_wp2
        go_ret
        exact ⟨rfl, HF.out.alloc hz _⟩
      · have hq := H1.out (by omega)
        have hb' : decide (a < (s.size : Int)) = false := decide_eq_false hb
        rw [hq]
        clear hq H0 H1
        go_wp2
        go_ret
        exact ⟨rfl, HF.out.alloc hz _⟩
    · have ha' : decide (0 < a) = false := decide_eq_false ha
      rw [H0.out (by omega)]
      by_cases hb : a < (s.size : Int)
      · clear H0 H1
        go_wp2
        go_ret
        exact ⟨rfl, HF.out.alloc hz _⟩
      · have hq : pl s.data.toList (s.size : Int) = (1, 1) := (H1.out (by omega)).symm.trans (H0.out (by omega))
        have hb' : decide (a < (s.size : Int)) = false := decide_eq_false hb
        rw [hq]
        clear hq H0 H1
        go_wp2
        go_ret
        exact ⟨rfl, HF.out.alloc hz _⟩

theorem law_ends (s : ByteArray) (a e : Int) (hs : s.size ≤ maxLen) (w : World) :
    Calls Try.prog 8 #[.string s, .int .i64 a, .int .i64 e] w fun en w' => en = .returned (.bool true) ∧ Below w.heap.size w w' := by
  by_cases h : s.size ≤ 200
  · exact ends_any s a e w h
  · exact ends_big s a e w (by omega) hs
end Go.Proofs.Ytkemaaohmfdhbaa
