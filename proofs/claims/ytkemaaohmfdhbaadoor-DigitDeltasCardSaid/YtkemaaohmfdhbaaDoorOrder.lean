/- DigitOrder: a greater number has no fewer digits. -/
import Derived.Test.YtkemaaohmfdhbaaDoorBack
import Derived.Test.YtkemaaohmfdhbaaDoorPlain3
import Derived.Laws.Cover1
namespace Go.Proofs.YtkemaaohmfdhbaaDoor
open Go.RowKit

set_option maxRecDepth 100000 in
set_option maxHeartbeats 2000000 in
theorem order_lt (a b : Nat) (w : World) (ha : a < b) (hb : b ≤ 2147483647) (hE : Env w) :
    Calls Tryd.prog 7 #[.int .i64 (a : Int), .int .i64 (b : Int)] w fun e w' => e = .returned (.bool true) ∧ Below w.heap.size w w' := by
  obtain ⟨u, hu, hu1, hu2, hput⟩ := put_u a (by omega)
  obtain ⟨v, hv, hv1, hv2, hdel⟩ := delta_u a (by omega)
  obtain ⟨u', hu', hu1', hu2', hput'⟩ := put_u b (by omega)
  obtain ⟨v', hv', hv1', hv2', hdel'⟩ := delta_u b (by omega)
  have HP := Lib.hid hput
  have HD := Lib.hid hdel
  have HP' := Lib.hid hput'
  have HD' := Lib.hid hdel'
  have HE0 := Lib.hid hE
  clear hput hdel hput' hdel' hE
  have hab : (a : Int) < (b : Int) := by omega
  have hw1 : ((u.size : Int)) ≤ 10 := by omega
  have hw2 : ((v.size : Int)) ≤ 5 := by omega
  have hw3 : ((u'.size : Int)) ≤ 10 := by omega
  have hw4 : ((v'.size : Int)) ≤ 5 := by omega
  have hl1 : (u.size : Int) ≤ (u'.size : Int) := by
    have := dec_mono b a (by omega)
    rw [← hu, ← hu'] at this
    have h1 : u.data.toList.length = u.size := by simp
    have h2 : u'.data.toList.length = u'.size := by simp
    omega
  have hl2 : (v.size : Int) ≤ (v'.size : Int) := by
    have := grp_mono b a (by omega)
    rw [← hv, ← hv'] at this
    have h1 : v.data.toList.length = v.size := by simp
    have h2 : v'.data.toList.length = v'.size := by simp
    omega
  have hn1 : (u.toList == u'.toList) = false := by
    rw [ByteArray.toList_eq, ByteArray.toList_eq, hu, hu', beq_eq_false_iff_ne]
    exact fun e => by have := dec_inj e; omega
  have hn2 : (v.toList == v'.toList) = false := by
    rw [ByteArray.toList_eq, ByteArray.toList_eq, hv, hv', beq_eq_false_iff_ne]
    exact fun e => by have := grp_inj e; omega
  have hn3 : ((a : Int) == (b : Int)) = false := by
    rw [beq_eq_false_iff_ne]; omega
  have hlex : u.size = u'.size → Op.bytesLess u.toList u'.toList = true := by
    intro h
    have h1 : u.data.toList.length = u.size := by simp
    have h2 : u'.data.toList.length = u'.size := by simp
    have := (dec_lex b a ha (by rw [← hu, ← hu']; omega)).lt
    rw [← hu, ← hu', ← ByteArray.toList_eq, ← ByteArray.toList_eq] at this
    rw [bytesLess_eq, decide_eq_true this]
  have HL := Lib.hid hlex
  clear hlex hu hu' hv hv'
  go_enter Tryd.func7, Tryd.ntmps7
  go_wp2_with fail
  refine (works_any _ HE0.out).mono ?_
  rintro e w1 ⟨rfl, b1⟩
  have B1 := Lib.hid b1
  have HE1 := Lib.hid (HE0.out.below b1)
  clear b1
  go_wp2_with fail
  refine (HP.out _ HE1.out.2).mono ?_
  rintro e w2 ⟨rfl, b2⟩
  have B2 := Lib.hid (B1.out.trans (b2.mono B1.out.size))
  have HE2 := Lib.hid (HE1.out.below b2)
  clear b2
  go_wp2_with fail
  refine (HP'.out _ HE2.out.2).mono ?_
  rintro e w3 ⟨rfl, b3⟩
  have B3 := Lib.hid (B2.out.trans (b3.mono B2.out.size))
  clear b3
  go_wp2_with fail
  refine (HD.out _).mono ?_
  rintro e w4 ⟨rfl, b4⟩
  have B4 := Lib.hid (B3.out.trans (b4.mono B3.out.size))
  clear b4
  go_wp2_with fail
  refine (HD'.out _).mono ?_
  rintro e w5 ⟨rfl, b5⟩
  have B5 := Lib.hid (B4.out.trans (b5.mono B4.out.size))
  clear b5
  by_cases hlt : (u.size : Int) < (u'.size : Int)
  · go_wp2
    go_ret
    exact ⟨rfl, B5.out⟩
  · have heq : (u.size : Int) = (u'.size : Int) := by omega
    have hleq := HL.out (by omega)
    go_wp2
    go_ret
    exact ⟨rfl, B5.out⟩

set_option maxRecDepth 100000 in
set_option maxHeartbeats 2000000 in
theorem order_eq (a : Nat) (w : World) (hb : a ≤ 2147483647) (hE : Env w) :
    Calls Tryd.prog 7 #[.int .i64 (a : Int), .int .i64 (a : Int)] w fun e w' => e = .returned (.bool true) ∧ Below w.heap.size w w' := by
  obtain ⟨u, hu, hu1, hu2, hput⟩ := put_u a (by omega)
  obtain ⟨v, hv, hv1, hv2, hdel⟩ := delta_u a (by omega)
  have HP := Lib.hid hput
  have HD := Lib.hid hdel
  have HE0 := Lib.hid hE
  clear hput hdel hE hu hv
  have hw1 : ((u.size : Int)) ≤ 10 := by omega
  have hw2 : ((v.size : Int)) ≤ 5 := by omega
  go_enter Tryd.func7, Tryd.ntmps7
  go_wp2_with fail
  refine (works_any _ HE0.out).mono ?_
  rintro e w1 ⟨rfl, b1⟩
  have B1 := Lib.hid b1
  have HE1 := Lib.hid (HE0.out.below b1)
  clear b1
  go_wp2_with fail
  refine (HP.out _ HE1.out.2).mono ?_
  rintro e w2 ⟨rfl, b2⟩
  have B2 := Lib.hid (B1.out.trans (b2.mono B1.out.size))
  have HE2 := Lib.hid (HE1.out.below b2)
  clear b2
  go_wp2_with fail
  refine (HP.out _ HE2.out.2).mono ?_
  rintro e w3 ⟨rfl, b3⟩
  have B3 := Lib.hid (B2.out.trans (b3.mono B2.out.size))
  clear b3
  go_wp2_with fail
  refine (HD.out _).mono ?_
  rintro e w4 ⟨rfl, b4⟩
  have B4 := Lib.hid (B3.out.trans (b4.mono B3.out.size))
  clear b4
  go_wp2_with fail
  refine (HD.out _).mono ?_
  rintro e w5 ⟨rfl, b5⟩
  have B5 := Lib.hid (B4.out.trans (b5.mono B4.out.size))
  clear b5
  go_wp2
  go_ret
  exact ⟨rfl, B5.out⟩

/-- what Put and Delta tell of any number -/
theorem both (n : Int) : ∃ u v x, (x = 0 → 0 ≤ n ∧ n ≤ 2147483647) ∧ (∀ w, HT w → Calls Tryd.prog 10 #[.int .i64 n] w fun e w' => e = .returned (.tuple #[.string u, .int .i64 x]) ∧ Below w.heap.size w w') ∧
    (∀ w, Calls Tryd.prog 16 #[.int .i64 n] w fun e w' => e = .returned (.tuple #[.string v, .int .i64 x]) ∧ Below w.heap.size w w') := by
  by_cases hn : n < 0 ∨ 2147483647 < n
  · exact ⟨_, _, 3, by omega, fun w _ => put_no n w hn, fun w => delta_no n w hn⟩
  · obtain ⟨k, rfl⟩ := Int.eq_ofNat_of_zero_le (show 0 ≤ n by omega)
    obtain ⟨u, -, -, -, hput⟩ := put_u k (by omega)
    obtain ⟨v, -, -, -, hdel⟩ := delta_u k (by omega)
    exact ⟨u, v, 0, by omega, hput, hdel⟩

set_option maxRecDepth 100000 in
set_option maxHeartbeats 2000000 in
theorem order_out (a b : Int) (w : World) (hno : ¬ (0 ≤ a ∧ a ≤ b ∧ b ≤ 2147483647)) (hE : Env w) :
    Calls Tryd.prog 7 #[.int .i64 a, .int .i64 b] w fun e w' => e = .returned (.bool true) ∧ Below w.heap.size w w' := by
  obtain ⟨u, v, x, hx, hput, hdel⟩ := both a
  obtain ⟨u', v', y, hy, hput', hdel'⟩ := both b
  have HP := Lib.hid hput
  have HD := Lib.hid hdel
  have HP' := Lib.hid hput'
  have HD' := Lib.hid hdel'
  have HE0 := Lib.hid hE
  have HX := Lib.hid hx
  have HY := Lib.hid hy
  have HN := Lib.hid hno
  clear hput hdel hput' hdel' hE hx hy hno
  go_enter Tryd.func7, Tryd.ntmps7
  go_wp2_with fail
  refine (works_any _ HE0.out).mono ?_
  rintro e w1 ⟨rfl, b1⟩
  have B1 := Lib.hid b1
  have HE1 := Lib.hid (HE0.out.below b1)
  clear b1
  go_wp2_with fail
  refine (HP.out _ HE1.out.2).mono ?_
  rintro e w2 ⟨rfl, b2⟩
  have B2 := Lib.hid (B1.out.trans (b2.mono B1.out.size))
  have HE2 := Lib.hid (HE1.out.below b2)
  clear b2
  go_wp2_with fail
  refine (HP'.out _ HE2.out.2).mono ?_
  rintro e w3 ⟨rfl, b3⟩
  have B3 := Lib.hid (B2.out.trans (b3.mono B2.out.size))
  clear b3
  go_wp2_with fail
  refine (HD.out _).mono ?_
  rintro e w4 ⟨rfl, b4⟩
  have B4 := Lib.hid (B3.out.trans (b4.mono B3.out.size))
  clear b4
  go_wp2_with fail
  refine (HD'.out _).mono ?_
  rintro e w5 ⟨rfl, b5⟩
  have B5 := Lib.hid (B4.out.trans (b5.mono B4.out.size))
  clear b5
  by_cases h1 : x = 0
  · by_cases h2 : y = 0
    · subst h1 h2
      have h3 : b < a := by
        have := HX.out rfl
        have := HY.out rfl
        have := HN.out
        omega
      go_wp2
      go_ret
      exact ⟨rfl, B5.out⟩
    · subst h1
      have h2' : decide (y = 0) = false := decide_eq_false h2
      go_wp2
      go_ret
      exact ⟨rfl, B5.out⟩
  · have h1' : decide (x = 0) = false := decide_eq_false h1
    go_wp2
    go_ret
    exact ⟨rfl, B5.out⟩

theorem law_order (a b : Int) (_h1 : (Lit.int .i64 a).wf = true) (_h2 : (Lit.int .i64 b).wf = true) (w : World) (hE : Env w) :
    Calls Tryd.prog 7 #[.int .i64 a, .int .i64 b] w fun e w' => e = .returned (.bool true) ∧ Below w.heap.size w w' := by
  by_cases h : 0 ≤ a ∧ a ≤ b ∧ b ≤ 2147483647
  · obtain ⟨i, rfl⟩ := Int.eq_ofNat_of_zero_le h.1
    obtain ⟨j, rfl⟩ := Int.eq_ofNat_of_zero_le (show 0 ≤ b by omega)
    by_cases hij : i = j
    · subst hij
      exact order_eq i w (by omega) hE
    · exact order_lt i j w (by omega) (by omega) hE
  · exact order_out a b w h hE
end Go.Proofs.YtkemaaohmfdhbaaDoor
