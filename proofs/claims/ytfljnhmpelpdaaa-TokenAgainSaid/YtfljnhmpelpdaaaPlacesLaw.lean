/- TokenPlaces: each token stands at its place. -/
import Derived.Test.YtfljnhmpelpdaaaPlaced2
namespace Go.Proofs.Ytfljnhmpelpdaaa
open Go.RowKit

theorem toks_nil (W : World) : Toks W (.slice none 0 0) [] := ⟨none, 0, 0, rfl, fun h => absurd rfl h⟩
theorem bench_pl (s : ByteArray) (w : World) (hX : HX w) (hs : s.size ≤ 300) : Calls Try.prog 8 #[.string s] w fun e w' => ∃ v x y l, e = .returned (.tuple #[v, .int .i64 x, .int .i64 y]) ∧ Toks w' v l ∧ PlS s l 0 s.size ∧ l.length ≤ 100000 ∧ Below w.heap.size w w' := by
  have h := bench_any s w hX (by omega)
  have hp := toksN_placed s
  have hlen := fun l hl => runAll_len (stepN s) s.size (fun a l l' b h hs => stepN_go s a l l' b h hs) s.size [] 0 l (by simp) (by omega) hl
  change ∀ l, toksN s = .inl l → l.length ≤ s.size at hlen
  refine h.mono fun e w' ho => ?_
  generalize toksN s = T at ho hp hlen
  cases T with
  | inl l =>
    obtain ⟨v, he, hr, hb⟩ := ho
    exact ⟨v, 0, 0, l, he, .of_row hr, hp l rfl, by have := hlen l rfl; omega, hb⟩
  | inr a =>
    obtain ⟨he, hb⟩ := ho
    exact ⟨_, _, _, [], he, toks_nil _, Nat.zero_le _, by simp, hb⟩
theorem verilog_pl (s : ByteArray) (w : World) (hX : HX w) (hs : s.size ≤ 300) : Calls Try.prog 17 #[.string s] w fun e w' => ∃ v x y l, e = .returned (.tuple #[v, .int .i64 x, .int .i64 y]) ∧ Toks w' v l ∧ PlS s l 0 s.size ∧ l.length ≤ 100000 ∧ Below w.heap.size w w' := by
  have h := verilog_any s w hX (by omega)
  have hp := toksV_placed s
  have hlen := fun l hl => runAll_len (stepV s) s.size (fun a l l' b h hs => stepV_go s a l l' b h hs) s.size [] 0 l (by simp) (by omega) hl
  change ∀ l, toksV s = .inl l → l.length ≤ s.size at hlen
  refine h.mono fun e w' ho => ?_
  generalize toksV s = T at ho hp hlen
  cases T with
  | inl l =>
    obtain ⟨v, he, hr, hb⟩ := ho
    exact ⟨v, 0, 0, l, he, .of_row hr, hp l rfl, by have := hlen l rfl; omega, hb⟩
  | inr a =>
    obtain ⟨he, hb⟩ := ho
    exact ⟨_, _, _, [], he, toks_nil _, Nat.zero_le _, by simp, hb⟩
theorem toksB_len (s : ByteArray) : (toksB s).length ≤ s.size + 1 := by
  unfold toksB
  split
  · rename_i l h
    have h1 := endL_len l s.size
    have h2 := runAll_len (fun a l => some (stepB s a l)) s.size (fun a l l' b h e => by
      have := stepB_go s a l h
      simp only [Option.some.injEq] at e
      rw [e] at this
      exact this) s.size [] 0 l (by simp) (by omega) h
    omega
  · simp
theorem toks_slice {W : World} {v : Value} {l : List Tk} (h : Toks W v l) : ∃ b c, v = .slice b l.length c := by
  obtain ⟨b, o, c, rfl, _⟩ := h
  exact ⟨b, c, rfl⟩

set_option maxRecDepth 100000 in
set_option maxHeartbeats 1000000 in
theorem places_big (s : ByteArray) (w : World) (_hm : s.size ≤ maxLen) (h : (300 : Int) < (s.size : Int)) (hX : HX w) : Calls Try.prog 6 #[.string s] w fun e w' => e = .returned (.bool true) ∧ Below w.heap.size w w' := by
  go_enter Try.func6, Try.ntmps6
  go_wp2_with fail
  refine (works_any _ hX).mono ?_
  rintro e w1 ⟨rfl, b1⟩
  clear hX
  go_wp2
  go_ret
  exact ⟨rfl, b1⟩

set_option maxRecDepth 100000 in
set_option maxHeartbeats 1000000 in
theorem places_in (s : ByteArray) (w : World) (hs : (s.size : Int) ≤ 300) (hX : HX w) : Calls Try.prog 6 #[.string s] w fun e w' => e = .returned (.bool true) ∧ Below w.heap.size w w' := by
  have X0 := Lib.hid hX
  clear hX
  go_enter Try.func6, Try.ntmps6
  go_wp2_with fail
  refine (works_any _ X0.out).mono ?_
  rintro e w1 ⟨rfl, b1⟩
  have B1 := Lib.hid b1
  have X1 := Lib.hid (X0.out.below b1)
  clear b1
  go_wp2_with fail
  refine (blif_any s _ X1.out (by omega)).mono ?_
  rintro e w2 ⟨v1, rfl, r1, b2⟩
  have T1 := Lib.hid (Toks.of_row r1)
  obtain ⟨a1, c1, rfl⟩ := toks_slice T1.out
  have B2 := Lib.hid (B1.out.trans (b2.mono B1.out.size))
  have X2 := Lib.hid (X1.out.below b2)
  clear r1 b2
  go_wp2_with fail
  refine (bench_pl s _ X2.out (by omega)).mono ?_
  rintro e w3 ⟨v2, x2, y2, l2, rfl, t2, p2, n2, b3⟩
  obtain ⟨a2, c2, rfl⟩ := toks_slice t2
  have T1' := Lib.hid (T1.out.below b3)
  have T2 := Lib.hid t2
  have P2 := Lib.hid p2
  have B3 := Lib.hid (B2.out.trans (b3.mono B2.out.size))
  have X3 := Lib.hid (X2.out.below b3)
  clear t2 p2 b3 T1
  go_wp2_with fail
  refine (verilog_pl s _ X3.out (by omega)).mono ?_
  rintro e w4 ⟨v3, x3, y3, l3, rfl, t3, p3, n3, b4⟩
  obtain ⟨a3, c3, rfl⟩ := toks_slice t3
  have Q1 := Lib.hid (placed_any s (toksB s) _ w4 (by omega) (by have := toksB_len s; omega) (T1'.out.below b4) (toksB_placed s))
  have T2' := Lib.hid (T2.out.below b4)
  have T3 := Lib.hid t3
  have P3 := Lib.hid p3
  have B4 := Lib.hid (B3.out.trans (b4.mono B3.out.size))
  clear t3 p3 b4 T1' T2
  go_wp2_with fail
  refine Q1.out.mono ?_
  rintro e w5 ⟨rfl, b5⟩
  have Q2 := Lib.hid (placed_any s l2 _ w5 (by omega) n2 (T2'.out.below b5) P2.out)
  have T3' := Lib.hid (T3.out.below b5)
  have B5 := Lib.hid (B4.out.trans (b5.mono B4.out.size))
  clear b5
  go_wp2_with fail
  refine Q2.out.mono ?_
  rintro e w6 ⟨rfl, b6⟩
  have Q3 := Lib.hid (placed_any s l3 _ w6 (by omega) n3 (T3'.out.below b6) P3.out)
  have B6 := Lib.hid (B5.out.trans (b6.mono B5.out.size))
  clear b6
  go_wp2_with fail
  refine Q3.out.mono ?_
  rintro e w7 ⟨rfl, b7⟩
  have B7 := Lib.hid (B6.out.trans (b7.mono B6.out.size))
  clear b7
  go_wp2
  go_ret
  exact ⟨rfl, B7.out⟩

theorem law_places (s : ByteArray) (hs : s.size ≤ maxLen) (w : World) (hX : HX w) : Calls Try.prog 6 #[.string s] w fun e w' => e = .returned (.bool true) ∧ Below w.heap.size w w' := by
  by_cases h : (300 : Int) < (s.size : Int)
  · exact places_big s w hs h hX
  · exact places_in s w (by omega) hX
end Go.Proofs.Ytfljnhmpelpdaaa
