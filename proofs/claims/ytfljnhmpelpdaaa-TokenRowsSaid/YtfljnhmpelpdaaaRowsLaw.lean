/- TokenRows: rows of tokens alike, and their texts. -/
import Derived.Test.YtfljnhmpelpdaaaTi4
import Derived.Test.YtfljnhmpelpdaaaWorks
namespace Go.Proofs.Ytfljnhmpelpdaaa
open Go.RowKit

theorem lst_texts {W : World} {B : Nat} {v : Value} {l : List Ti} (h : W.ownsRow B 9 1 v l.length ((l.map Ti.t).flatMap stc)) : Lst stc W v (l.map Ti.t) := by
  rw [show l.length = (l.map Ti.t).length from by simp] at h
  exact Lst.of_row h

set_option maxRecDepth 100000 in
set_option maxHeartbeats 400000 in
theorem rows_big (a b : List Ti) (v u : Value) (w : World) (hX : HX w) (ha : Lst tic w v a) (hb : Lst tic w u b) (h : (30 : Int) < (a.length : Int) ∨ (30 : Int) < (b.length : Int)) :
    Calls Try.prog 4 #[v, u] w fun e w' => e = .returned (.bool true) ∧ Below w.heap.size w w' := by
  obtain ⟨c, d, rfl⟩ := ha.slice
  obtain ⟨c', d', rfl⟩ := hb.slice
  clear ha hb
  by_cases h1 : (30 : Int) < (a.length : Int)
  · go_enter Try.func4, Try.ntmps4
    go_wp2_with fail
    refine (works_any _ hX).mono ?_
    rintro e w1 ⟨rfl, b1⟩
    clear hX
    go_wp2
    go_ret
    exact ⟨rfl, b1⟩
  · have h2 : (30 : Int) < (b.length : Int) := by rcases h with h | h; exact absurd h h1; exact h
    have h1' : decide ((30 : Int) < (a.length : Int)) = false := decide_eq_false h1
    go_enter Try.func4, Try.ntmps4
    go_wp2_with fail
    refine (works_any _ hX).mono ?_
    rintro e w1 ⟨rfl, b1⟩
    clear hX
    go_wp2
    go_ret
    exact ⟨rfl, b1⟩

set_option maxRecDepth 100000 in
set_option maxHeartbeats 400000 in
theorem rows_in (a b : List Ti) (v u : Value) (w : World) (hX : HX w) (ha : Lst tic w v a) (hb : Lst tic w u b) (h1 : ¬ (30 : Int) < (a.length : Int)) (h2 : ¬ (30 : Int) < (b.length : Int)) :
    Calls Try.prog 4 #[v, u] w fun e w' => e = .returned (.bool true) ∧ Below w.heap.size w w' := by
  have h1' : decide ((30 : Int) < (a.length : Int)) = false := decide_eq_false h1
  have h2' : decide ((30 : Int) < (b.length : Int)) = false := decide_eq_false h2
  have X0 := Lib.hid hX
  have A0 := Lib.hid ha
  have B0 := Lib.hid hb
  obtain ⟨c, d, rfl⟩ := ha.slice
  obtain ⟨c', d', rfl⟩ := hb.slice
  clear ha hb hX
  obtain ⟨q, hq⟩ : ∃ q, eqL tiEq a b = q := ⟨_, rfl⟩
  have HQ := Lib.hid hq
  clear hq
  go_enter Try.func4, Try.ntmps4
  go_wp2_with fail
  refine (works_any _ X0.out).mono ?_
  rintro e w1 ⟨rfl, b1⟩
  have C1 := Lib.hid b1
  have A1 := Lib.hid (A0.out.below b1)
  have B1 := Lib.hid (B0.out.below b1)
  clear b1
  go_wp2_with fail
  refine (of_any a _ _ (by omega) A1.out).mono ?_
  rintro e w2 ⟨v2, rfl, r2, b2⟩
  have T2 := Lib.hid (Lst.of_row r2)
  have C2 := Lib.hid (C1.out.trans (b2.mono C1.out.size))
  have A2 := Lib.hid (A1.out.below b2)
  have B2 := Lib.hid (B1.out.below b2)
  obtain ⟨p2, q2, rfl⟩ := T2.out.slice
  clear r2 b2
  go_wp2_with fail
  refine (of_any b _ _ (by omega) B2.out).mono ?_
  rintro e w3 ⟨v3, rfl, r3, b3⟩
  have T3 := Lib.hid (Lst.of_row r3)
  have T2' := Lib.hid (T2.out.below b3)
  have C3 := Lib.hid (C2.out.trans (b3.mono C2.out.size))
  have A3 := Lib.hid (A2.out.below b3)
  have B3 := Lib.hid (B2.out.below b3)
  obtain ⟨p3, q3, rfl⟩ := T3.out.slice
  clear r3 b3
  go_wp2_with fail
  refine (refSame_any a b _ _ _ (by omega) (by omega) T2'.out T3.out).mono ?_
  rintro e w4 ⟨rfl, b4⟩
  have C4 := Lib.hid (C3.out.trans (b4.mono C3.out.size))
  have A4 := Lib.hid (A3.out.below b4)
  have B4 := Lib.hid (B3.out.below b4)
  rw [HQ.out]
  clear b4
  go_wp2_with fail
  refine (textsI_any a _ _ (by omega) A4.out).mono ?_
  rintro e w5 ⟨v5, rfl, r5, b5⟩
  have T5 := Lib.hid (lst_texts r5)
  have C5 := Lib.hid (C4.out.trans (b5.mono C4.out.size))
  have A5 := Lib.hid (A4.out.below b5)
  have B5 := Lib.hid (B4.out.below b5)
  obtain ⟨p5, q5, rfl⟩ : ∃ p q, v5 = .slice p a.length q := by have := T5.out.slice; simpa using this
  clear r5 b5
  go_wp2_with fail
  refine (of_any a _ _ (by omega) A5.out).mono ?_
  rintro e w6 ⟨v6, rfl, r6, b6⟩
  have T6 := Lib.hid (Lst.of_row r6)
  have T5' := Lib.hid (T5.out.below b6)
  have C6 := Lib.hid (C5.out.trans (b6.mono C5.out.size))
  have A6 := Lib.hid (A5.out.below b6)
  have B6 := Lib.hid (B5.out.below b6)
  obtain ⟨p6, q6, rfl⟩ := T6.out.slice
  clear r6 b6
  go_wp2_with fail
  refine (refTexts_any a _ _ (by omega) T6.out).mono ?_
  rintro e w7 ⟨v7, rfl, r7, b7⟩
  have T7 := Lib.hid (lst_texts r7)
  have T5 := Lib.hid (T5'.out.below b7)
  have C7 := Lib.hid (C6.out.trans (b7.mono C6.out.size))
  have A7 := Lib.hid (A6.out.below b7)
  have B7 := Lib.hid (B6.out.below b7)
  obtain ⟨p7, q7, rfl⟩ : ∃ p q, v7 = .slice p a.length q := by have := T7.out.slice; simpa using this
  clear r7 b7
  go_wp2_with fail
  refine (textsEq_any _ _ _ _ _ (by simp; omega) (by simp; omega) T5.out T7.out).mono ?_
  rintro e w8 ⟨rfl, b8⟩
  rw [eqL_self stEq_self]
  have C8 := Lib.hid (C7.out.trans (b8.mono C7.out.size))
  have A8 := Lib.hid (A7.out.below b8)
  have B8 := Lib.hid (B7.out.below b8)
  clear b8
  go_wp2_with fail
  refine (sameI_any a b _ _ _ (by omega) (by omega) A8.out B8.out).mono ?_
  rintro e w9 ⟨rfl, b9⟩
  rw [HQ.out]
  have C9 := Lib.hid (C8.out.trans (b9.mono C8.out.size))
  clear b9
  clear HQ
  cases q
  · go_wp2
    go_ret
    exact ⟨rfl, C9.out⟩
  · go_wp2
    go_ret
    exact ⟨rfl, C9.out⟩

theorem law_rows (a b : List Ti) (v u : Value) (w : World) (hX : HX w) (ha : Lst tic w v a) (hb : Lst tic w u b) :
    Calls Try.prog 4 #[v, u] w fun e w' => e = .returned (.bool true) ∧ Below w.heap.size w w' := by
  by_cases h1 : (30 : Int) < (a.length : Int)
  · exact rows_big a b v u w hX ha hb (.inl h1)
  · by_cases h2 : (30 : Int) < (b.length : Int)
    · exact rows_big a b v u w hX ha hb (.inr h2)
    · exact rows_in a b v u w hX ha hb h1 h2
end Go.Proofs.Ytfljnhmpelpdaaa
