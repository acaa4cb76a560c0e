/- TokenBench: the words of any text are just what the document says. -/
import Derived.Test.YtfljnhmpelpdaaaRefN
import Derived.Test.YtfljnhmpelpdaaaTi4
import Derived.Test.YtfljnhmpelpdaaaWorks
namespace Go.Proofs.Ytfljnhmpelpdaaa
open Go.RowKit

theorem lst_of_cs2 {W : World} {B : Nat} {e : TypeId} {v : Value} {l : List Tk} (h : W.ownsRow B e 3 v l.length (cs l)) : Lst tic W v (l.map toI) := by
  rw [cs_flat, show l.length = (l.map toI).length from by simp] at h
  exact Lst.of_row h
/-- what both tell: the same -/
def Out4 (w : World) (n : Nat) (l : List Ti) (x y : Int) (e : Ending) (w' : World) : Prop :=
  ∃ v, e = .returned (.tuple #[v, .int .i64 x, .int .i64 y]) ∧ Lst tic w' v l ∧ l.length ≤ n ∧ Below w.heap.size w w'
theorem bench_both (s : ByteArray) (hs : s.size ≤ 300) : ∃ l x y, ∀ w, HX w → Calls Try.prog 8 #[.string s] w (Out4 w 100000 l x y) ∧ Calls Try.prog 9 #[.string s] w (Out4 w 100000 l x y) := by
  have h1 := fun w hX => bench_any s w hX (by omega)
  have h2 := fun w => refBench_any s w (by omega)
  have hlen := fun l hl => runAll_len (stepN s) s.size (fun a l l' b h hs => stepN_go s a l l' b h hs) s.size [] 0 l (by simp) (by omega) hl
  change ∀ l, toksN s = .inl l → l.length ≤ s.size at hlen
  generalize toksN s = T at h1 h2 hlen
  cases T with
  | inl l =>
    have hl := hlen l rfl
    refine ⟨l.map toI, 0, 0, fun w hX => ⟨(h1 w hX).mono ?_, (h2 w).mono ?_⟩⟩
    · rintro e w' ⟨v, rfl, hr, hb⟩
      exact ⟨v, rfl, lst_of_cs2 hr, by simp; omega, hb⟩
    · rintro e w' ⟨v, rfl, hr, hb⟩
      exact ⟨v, rfl, lst_of_cs2 hr, by simp; omega, hb⟩
  | inr a =>
    refine ⟨[], (a : Int), 2, fun w hX => ⟨(h1 w hX).mono ?_, (h2 w).mono ?_⟩⟩
    · rintro e w' ⟨rfl, hb⟩
      exact ⟨_, rfl, Lst.nil, by simp, hb⟩
    · rintro e w' ⟨rfl, hb⟩
      exact ⟨_, rfl, Lst.nil, by simp, hb⟩

set_option maxRecDepth 100000 in
set_option maxHeartbeats 400000 in
theorem benchLaw_big (s : ByteArray) (w : World) (h : (300 : Int) < (s.size : Int)) (hX : HX w) : Calls Try.prog 3 #[.string s] w fun e w' => e = .returned (.bool true) ∧ Below w.heap.size w w' := by
  go_enter Try.func3, Try.ntmps3
  go_wp2_with fail
  refine (works_any _ hX).mono ?_
  rintro e w1 ⟨rfl, b1⟩
  clear hX
  go_wp2
  go_ret
  exact ⟨rfl, b1⟩

set_option maxRecDepth 100000 in
set_option maxHeartbeats 400000 in
theorem benchLaw_in (s : ByteArray) (w : World) (hs : ¬ (300 : Int) < (s.size : Int)) (hX : HX w) : Calls Try.prog 3 #[.string s] w fun e w' => e = .returned (.bool true) ∧ Below w.heap.size w w' := by
  obtain ⟨l, x, y, hbb⟩ := bench_both s (by omega)
  have HBB := Lib.hid hbb
  have X0 := Lib.hid hX
  clear hX hbb
  go_enter Try.func3, Try.ntmps3
  go_wp2_with fail
  refine (works_any _ X0.out).mono ?_
  rintro e w1 ⟨rfl, b1⟩
  have B1 := Lib.hid b1
  have X1 := Lib.hid (X0.out.below b1)
  clear b1
  go_wp2_with fail
  refine (HBB.out _ X1.out).1.mono ?_
  rintro e w2 ⟨v2, rfl, t2, n2, b2⟩
  have T2 := Lib.hid t2
  have B2 := Lib.hid (B1.out.trans (b2.mono B1.out.size))
  have X2 := Lib.hid (X1.out.below b2)
  obtain ⟨p2, q2, rfl⟩ := t2.slice
  clear t2 b2
  go_wp2_with fail
  refine (HBB.out _ X2.out).2.mono ?_
  rintro e w3 ⟨v3, rfl, t3, n3, b3⟩
  have T3 := Lib.hid t3
  have T2' := Lib.hid (T2.out.below b3)
  have B3 := Lib.hid (B2.out.trans (b3.mono B2.out.size))
  obtain ⟨p3, q3, rfl⟩ := t3.slice
  clear t3 b3
  go_wp2_with fail
  refine (of_any l _ _ n2 T2'.out).mono ?_
  rintro e w4 ⟨v4, rfl, r4, b4⟩
  have T4 := Lib.hid (Lst.of_row r4)
  have T3' := Lib.hid (T3.out.below b4)
  have B4 := Lib.hid (B3.out.trans (b4.mono B3.out.size))
  obtain ⟨p4, q4, rfl⟩ := T4.out.slice
  clear r4 b4
  go_wp2_with fail
  refine (refSame_any l l _ _ _ n2 n2 T4.out T3'.out).mono ?_
  rintro e w5 ⟨rfl, b5⟩
  rw [eqL_self tiEq_self]
  have B5 := Lib.hid (B4.out.trans (b5.mono B4.out.size))
  clear b5
  go_wp2
  go_ret
  exact ⟨rfl, B5.out⟩
theorem law_bench (s : ByteArray) (hs : s.size ≤ maxLen) (w : World) (hX : HX w) : Calls Try.prog 3 #[.string s] w fun e w' => e = .returned (.bool true) ∧ Below w.heap.size w w' := by
  by_cases h : (300 : Int) < (s.size : Int)
  · exact benchLaw_big s w h hX
  · exact benchLaw_in s w h hX
end Go.Proofs.Ytfljnhmpelpdaaa
