/- DigitTells: Put, Get and Digit are what the document says. -/
import Derived.Test.YtkemaaohmfdhbaaDoorRefs2
import Derived.Test.YtkemaaohmfdhbaaDoorCuts
namespace Go.Proofs.YtkemaaohmfdhbaaDoor
open Go.RowKit

theorem puts (n : Int) : ∃ u x, (∀ w, HT w → Calls Tryd.prog 10 #[.int .i64 n] w fun e w' => e = .returned (.tuple #[.string u, .int .i64 x]) ∧ Below w.heap.size w w') ∧
    (∀ w, Calls Tryd.prog 11 #[.int .i64 n] w fun e w' => e = .returned (.tuple #[.string u, .int .i64 x]) ∧ Below w.heap.size w w') := by
  by_cases hn : n < 0 ∨ 2147483647 < n
  · exact ⟨_, 3, fun w _ => put_no n w hn, fun w => rput_no n w hn⟩
  · obtain ⟨k, rfl⟩ := Int.eq_ofNat_of_zero_le (show 0 ≤ n by omega)
    exact ⟨_, 0, fun w h => put_yes k w h (by omega), fun w => rput_yes k w (by omega)⟩
theorem gets (s : ByteArray) (a : Int) (hs : s.size ≤ 100) : ∃ x y z : Int, (∀ w, HG w → Calls Tryd.prog 12 #[.string s, .int .i64 a] w fun e w' => e = .returned (.tuple #[.int .i64 x, .int .i64 y, .int .i64 z]) ∧ Below w.heap.size w w') ∧
    (∀ w, Calls Tryd.prog 13 #[.string s, .int .i64 a] w fun e w' => e = .returned (.tuple #[.int .i64 x, .int .i64 y, .int .i64 z]) ∧ w = w') := by
  refine ⟨_, _, _, fun w hg => get_any s a w (by unfold maxLen; omega) hg, fun w => ?_⟩
  by_cases h : a < 0 ∨ (s.size : Int) < a
  · exact rget_out s a w h
  · obtain ⟨k, rfl⟩ := Int.eq_ofNat_of_zero_le (show 0 ≤ a by omega)
    exact rget_in s k w hs (by omega)
theorem digs (c : Int) : ∃ b : Bool, (∀ w, Calls Tryd.prog 15 #[.int .u8 c] w fun e w' => e = .returned (.bool b) ∧ w = w') ∧ (∀ w, Calls Tryd.prog 14 #[.int .u8 c] w fun e w' => e = .returned (.bool b) ∧ w = w') := by
  by_cases h : 48 ≤ c ∧ c ≤ 57
  · exact ⟨true, fun w => digit_yes c w h.1 h.2, fun w => rdigit_yes c w h.1 h.2⟩
  · exact ⟨false, fun w => digit_no c w (by omega), fun w => rdigit_no c w (by omega)⟩

set_option maxRecDepth 100000 in
set_option maxHeartbeats 2000000 in
theorem tells_big (n : Int) (s : ByteArray) (a c : Int) (w : World) (_hm : s.size ≤ maxLen) (h : (100 : Int) < (s.size : Int)) (hE : Env w) :
    Calls Tryd.prog 3 #[.int .i64 n, .string s, .int .i64 a, .int .u8 c] w fun e w' => e = .returned (.bool true) ∧ Below w.heap.size w w' := by
  go_enter Tryd.func3, Tryd.ntmps3
  go_wp2_with fail
  refine (works_any _ hE).mono ?_
  rintro e w1 ⟨rfl, b1⟩
  clear hE
  go_wp2
  go_ret
  exact ⟨rfl, b1⟩

set_option maxRecDepth 100000 in
set_option maxHeartbeats 2000000 in
theorem tells_in (n : Int) (s : ByteArray) (a c : Int) (w : World) (hs : (s.size : Int) ≤ 100) (hE : Env w) :
    Calls Tryd.prog 3 #[.int .i64 n, .string s, .int .i64 a, .int .u8 c] w fun e w' => e = .returned (.bool true) ∧ Below w.heap.size w w' := by
  obtain ⟨u, x, hput, hrput⟩ := puts n
  obtain ⟨g, p, z, hget, hrget⟩ := gets s a (by omega)
  obtain ⟨b, hdg, hrdg⟩ := digs c
  have H1 := Lib.hid hput
  have H2 := Lib.hid hrput
  have H3 := Lib.hid hget
  have H4 := Lib.hid hrget
  have H5 := Lib.hid hdg
  have H6 := Lib.hid hrdg
  have HE0 := Lib.hid hE
  clear hput hrput hget hrget hdg hrdg hE
  go_enter Tryd.func3, Tryd.ntmps3
  go_wp2_with fail
  refine (works_any _ HE0.out).mono ?_
  rintro e w1 ⟨rfl, b1⟩
  have B1 := Lib.hid b1
  have HE1 := Lib.hid (HE0.out.below b1)
  clear b1
  go_wp2_with fail
  refine (H1.out _ HE1.out.2).mono ?_
  rintro e w2 ⟨rfl, b2⟩
  have B2 := Lib.hid (B1.out.trans (b2.mono B1.out.size))
  have HE2 := Lib.hid (HE1.out.below b2)
  clear b2
  go_wp2_with fail
  refine (H2.out _).mono ?_
  rintro e w3 ⟨rfl, b3⟩
  have B3 := Lib.hid (B2.out.trans (b3.mono B2.out.size))
  have HE3 := Lib.hid (HE2.out.below b3)
  clear b3
  go_wp2_with fail
  refine (H3.out _ HE3.out.1).mono ?_
  rintro e w4 ⟨rfl, b4⟩
  have B4 := Lib.hid (B3.out.trans (b4.mono B3.out.size))
  clear b4
  go_wp2_with fail
  refine (H4.out _).mono ?_
  rintro e w5 ⟨rfl, rfl⟩
  go_wp2_with fail
  refine (H6.out _).mono ?_
  rintro e w5 ⟨rfl, rfl⟩
  go_wp2_with fail
  refine (H5.out _).mono ?_
  rintro e w5 ⟨rfl, rfl⟩
  go_wp2
  go_ret
  exact ⟨rfl, B4.out⟩

theorem law_tells (n : Int) (s : ByteArray) (a c : Int) (_h0 : (Lit.int .i64 n).wf = true) (hs : s.size ≤ maxLen) (_h2 : (Lit.int .i64 a).wf = true) (_h3 : (Lit.int .u8 c).wf = true) (w : World) (hE : Env w) :
    Calls Tryd.prog 3 #[.int .i64 n, .string s, .int .i64 a, .int .u8 c] w fun e w' => e = .returned (.bool true) ∧ Below w.heap.size w w' := by
  by_cases hb : (100 : Int) < (s.size : Int)
  · exact tells_big n s a c w hs hb hE
  · exact tells_in n s a c w (by omega) hE
end Go.Proofs.YtkemaaohmfdhbaaDoor
