/- SpotMoves: who goes over a text is at its end. -/
import Derived.Test.YtkemaaohmfdhbaaOrder
namespace Go.Proofs.Ytkemaaohmfdhbaa
open Go.RowKit

theorem moves_big (s t : ByteArray) (a b : Int) (w : World) (hs : 200 < s.size) (hm : s.size ≤ maxLen) :
    Calls Try.prog 7 #[.string s, .string t, .int .i16 a, .int .i16 b] w fun e w' => e = .returned (.bool true) ∧ Below w.heap.size w w' := by
  unfold maxLen at hm
  go_enter Try.func7, Try.ntmps7
  go_wp2_with fail
  refine (works_any _).mono ?_
  rintro e w1 ⟨rfl, b1⟩
  go_wp2
  go_ret
  exact ⟨rfl, b1⟩

theorem moves_big2 (s t : ByteArray) (a b : Int) (w : World) (hs : s.size ≤ 200) (ht : 200 < t.size) (hm' : t.size ≤ maxLen) :
    Calls Try.prog 7 #[.string s, .string t, .int .i16 a, .int .i16 b] w fun e w' => e = .returned (.bool true) ∧ Below w.heap.size w w' := by
  unfold maxLen at hm'
  go_enter Try.func7, Try.ntmps7
  go_wp2_with fail
  refine (works_any _).mono ?_
  rintro e w1 ⟨rfl, b1⟩
  go_wp2
  go_ret
  exact ⟨rfl, b1⟩

set_option maxHeartbeats 2000000 in
theorem moves_any (s t : ByteArray) (a b : Int) (w : World) (hs : s.size ≤ 200) (ht : t.size ≤ 200) (ha : -32768 ≤ a) (ha' : a ≤ 32767) (hb : -32768 ≤ b) (hb' : b ≤ 32767) :
    Calls Try.prog 7 #[.string s, .string t, .int .i16 a, .int .i16 b] w fun e w' => e = .returned (.bool true) ∧ Below w.heap.size w w' := by
  have hst : (s ++ t).size = s.size + t.size := ByteArray.size_append
  have hl : s.data.toList.length ≤ 200 := by simpa using hs
  have hl' : t.data.toList.length ≤ 200 := by simpa using ht
  have k1 := mv_bd (1, 1) s.data.toList 32768 (by simp) (by simp) (by simp) (by simp) (by omega)
  have k2 := mv_bd (a, b) s.data.toList 32768 (by simp; omega) (by simp; omega) (by simp; omega) (by simp; omega) (by omega)
  have q1 : pl s.data.toList (s.size : Int) = mv (1, 1) s.data.toList := by rw [pl, List.take_of_length_le (by simp)]
  have q2 : pl (s ++ t).data.toList ((s.size : Int) + t.size) = mv (mv (1, 1) s.data.toList) t.data.toList := by
    rw [pl, List.take_of_length_le (by simp [ByteArray.data_append]; omega), ByteArray.data_append, Array.toList_append, mv_append]
  have q3 : mv (a, b) (s ++ t).data.toList = mv (mv (a, b) s.data.toList) t.data.toList := by rw [ByteArray.data_append, Array.toList_append, mv_append]
  have Q1 := Lib.hid q1
  have Q2 := Lib.hid q2
  have Q3 := Lib.hid q3
  have HST := Lib.hid hst
  clear q1 q2 q3 hst
  go_enter Try.func7, Try.ntmps7
  go_wp2_with fail
  refine (works_any _).mono ?_
  rintro e w1 ⟨rfl, b1⟩
  go_wp2_with fail
  refine (move_any 1 1 s _ (by omega) (by omega) (by omega) (by omega) (by omega)).mono ?_
  rintro e w2 ⟨rfl, b2⟩
  go_wp2_with fail
  refine (place_any s _ _ (by omega)).mono ?_
  rintro e w3 ⟨rfl, b3⟩
  rw [Q1.out]
  go_wp2_with fail
  refine (move_any _ _ t _ (by omega) (by omega) (by omega) (by omega) (by omega)).mono ?_
  rintro e w4 ⟨rfl, b4⟩
  go_wp2_with fail
  refine (place_any (s ++ t) _ _ (by have := HST.out; omega)).mono ?_
  rintro e w5 ⟨rfl, b5⟩
  rw [Q2.out]
  go_wp2_with fail
  refine (move_any a b s _ (by omega) (by omega) (by omega) (by omega) (by omega)).mono ?_
  rintro e w6 ⟨rfl, b6⟩
  go_wp2_with fail
  refine (move_any _ _ t _ (by omega) (by omega) (by omega) (by omega) (by omega)).mono ?_
  rintro e w7 ⟨rfl, b7⟩
  go_wp2_with fail
  refine (move_any a b (s ++ t) _ (by have := HST.out; omega) (by omega) (by omega) (by omega) (by omega)).mono ?_
  rintro e w8 ⟨rfl, b8⟩
  rw [Q3.out]
  have c2 := b1.trans (b2.mono b1.size)
  have c3 := c2.trans (b3.mono c2.size)
  have c4 := c3.trans (b4.mono c3.size)
  have c5 := c4.trans (b5.mono c4.size)
  have c6 := c5.trans (b6.mono c5.size)
  have c7 := c6.trans (b7.mono c6.size)
  have c8 := c7.trans (b8.mono c7.size)
  have HF := Lib.hid c8
  clear b1 b2 b3 b4 b5 b6 b7 b8 c2 c3 c4 c5 c6 c7 c8 k1 k2
  have he1 : ((mv (1, 1) s.data.toList).1, (mv (1, 1) s.data.toList).2) = mv (1, 1) s.data.toList := rfl
  have he2 : ((mv (a, b) s.data.toList).1, (mv (a, b) s.data.toList).2) = mv (a, b) s.data.toList := rfl
  rw [he1, he2]
  clear he1 he2
  go_wp2
  go_ret
  exact ⟨rfl, HF.out⟩

theorem i16_wf {a : Int} (h : (Lit.int .i16 a).wf = true) : -32768 ≤ a ∧ a ≤ 32767 := by simpa [Lit.wf, IntKind.min, IntKind.max, IntKind.signed, IntKind.bits] using h

theorem law_moves (s t : ByteArray) (a b : Int) (hs : s.size ≤ maxLen) (ht : t.size ≤ maxLen) (ha : (Lit.int .i16 a).wf = true) (hb : (Lit.int .i16 b).wf = true) (w : World) :
    Calls Try.prog 7 #[.string s, .string t, .int .i16 a, .int .i16 b] w fun e w' => e = .returned (.bool true) ∧ Below w.heap.size w w' := by
  by_cases h : s.size ≤ 200
  · by_cases h' : t.size ≤ 200
    · exact moves_any s t a b w h h' (i16_wf ha).1 (i16_wf ha).2 (i16_wf hb).1 (i16_wf hb).2
    · exact moves_big2 s t a b w h (by omega) ht
  · exact moves_big s t a b w (by omega) hs
end Go.Proofs.Ytkemaaohmfdhbaa
