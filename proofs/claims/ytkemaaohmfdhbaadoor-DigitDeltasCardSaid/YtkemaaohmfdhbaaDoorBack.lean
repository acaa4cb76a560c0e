/- DigitBack: what is put is got. -/
import Derived.Test.YtkemaaohmfdhbaaDoorWorks
import Derived.Test.YtkemaaohmfdhbaaDoorPlain2
namespace Go.Proofs.YtkemaaohmfdhbaaDoor
open Go.RowKit

theorem app3 (a b c : ByteArray) : (a ++ b ++ c).data.toList = a.data.toList ++ b.data.toList ++ c.data.toList := by simp
theorem sz3 (a b c : ByteArray) : (a ++ b ++ c).size = a.size + b.size + c.size := by simp
theorem drop3 (a b c : ByteArray) : (a ++ b ++ c).data.toList.drop a.size = b.data.toList ++ c.data.toList := by
  rw [app3, List.append_assoc, show a.size = a.data.toList.length from by simp, List.drop_left]

theorem und_back (n : Nat) (hn : n ≤ 2147483647) (a u c : ByteArray) (hu : u.data.toList = grp n) (ha : a.size ≤ 100) (hc : c.size ≤ 100) (w : World) (hg : HG w) :
    Calls Tryd.prog 18 #[.string (a ++ u ++ c), .int .i64 (a.size : Int)] w fun e w' => e = .returned (.tuple #[.int .i64 (n : Int), .int .i64 ((a.size : Int) + (u.size : Int)), .int .i64 0]) ∧ Below w.heap.size w w' := by
  have hl := grp_len 4 n (by omega)
  have hul : u.size = (grp n).length := by rw [← hu]; simp
  have h := und_any (a ++ u ++ c) a.size w (by rw [sz3]; unfold maxLen; omega) hg
  have e : undR (a ++ u ++ c).data.toList (a.size : Int) = ((n : Int), (a.size : Int) + (u.size : Int), 0) := by
    rw [undR, if_neg (by omega), Int.toNat_natCast, drop3, hu, undV_grp n _ hn, if_pos rfl, hul]
  rw [e] at h
  exact h
theorem get_back (n : Nat) (hn : n ≤ 2147483647) (a u c : ByteArray) (hu : u.data.toList = Lib.decDigits n) (ha : a.size ≤ 100) (hc : c.size ≤ 100) (hno : noDg c.data.toList) (w : World) (hg : HG w) :
    Calls Tryd.prog 12 #[.string (a ++ u ++ c), .int .i64 (a.size : Int)] w fun e w' => e = .returned (.tuple #[.int .i64 (n : Int), .int .i64 ((a.size : Int) + (u.size : Int)), .int .i64 0]) ∧ Below w.heap.size w w' := by
  have hl := dec_len 9 n (by omega)
  have hul : u.size = (Lib.decDigits n).length := by rw [← hu]; simp
  have h := get_any (a ++ u ++ c) a.size w (by rw [sz3]; unfold maxLen; omega) hg
  have e : getR (a ++ u ++ c).data.toList (a.size : Int) = ((n : Int), (a.size : Int) + (u.size : Int), 0) := by
    rw [getR, if_neg (by simp; omega), Int.toNat_natCast, drop3, hu, getV_dec n _ hn hno]
    simp only [hul]
  rw [e] at h
  exact h

theorem put_u (n : Nat) (hn : n ≤ 2147483647) : ∃ u : ByteArray, u.data.toList = Lib.decDigits n ∧ 1 ≤ u.size ∧ u.size ≤ 10 ∧ ∀ w, HT w → Calls Tryd.prog 10 #[.int .i64 (n : Int)] w fun e w' => e = .returned (.tuple #[.string u, .int .i64 0]) ∧ Below w.heap.size w w' :=
  ⟨⟨(Lib.decDigits n).toArray⟩, rfl, dec_pos n, dec_len 9 n (by omega), fun w he => put_yes n w he hn⟩
theorem delta_u (n : Nat) (hn : n ≤ 2147483647) : ∃ u : ByteArray, u.data.toList = grp n ∧ 1 ≤ u.size ∧ u.size ≤ 5 ∧ ∀ w, Calls Tryd.prog 16 #[.int .i64 (n : Int)] w fun e w' => e = .returned (.tuple #[.string u, .int .i64 0]) ∧ Below w.heap.size w w' :=
  ⟨⟨(grp n).toArray⟩, rfl, grp_pos n, grp_len 4 n (by omega), fun w => delta_yes n w hn⟩

set_option maxRecDepth 100000 in
set_option maxHeartbeats 2000000 in
theorem back_no (n : Int) (a c : ByteArray) (w : World) (hn : n < 0 ∨ 2147483647 < n) (ha : (a.size : Int) ≤ 100) (hc : (c.size : Int) ≤ 100) (hE : Env w) :
    Calls Tryd.prog 5 #[.int .i64 n, .string a, .string c] w fun e w' => e = .returned (.bool true) ∧ Below w.heap.size w w' := by
  have HN := Lib.hid hn
  clear hn
  go_enter Tryd.func5, Tryd.ntmps5
  go_wp2_with fail
  refine (works_any _ hE).mono ?_
  rintro e w1 ⟨rfl, b1⟩
  have B1 := Lib.hid b1
  clear b1 hE
  go_wp2_with fail
  refine (put_no n _ HN.out).mono ?_
  rintro e w2 ⟨rfl, b2⟩
  have B2 := Lib.hid (B1.out.trans (b2.mono B1.out.size))
  clear b2
  go_wp2_with fail
  refine (delta_no n _ HN.out).mono ?_
  rintro e w3 ⟨rfl, b3⟩
  have B3 := Lib.hid (B2.out.trans (b3.mono B2.out.size))
  clear b3
  go_wp2
  go_ret
  exact ⟨rfl, B3.out⟩

set_option maxRecDepth 100000 in
set_option maxHeartbeats 2000000 in
theorem back_big (n : Int) (a c : ByteArray) (w : World) (_hm : a.size ≤ maxLen) (_hm2 : c.size ≤ maxLen) (h : (100 : Int) < (a.size : Int) ∨ (100 : Int) < (c.size : Int)) (hE : Env w) :
    Calls Tryd.prog 5 #[.int .i64 n, .string a, .string c] w fun e w' => e = .returned (.bool true) ∧ Below w.heap.size w w' := by
  by_cases h1 : (100 : Int) < (a.size : Int)
  · clear h
    go_enter Tryd.func5, Tryd.ntmps5
    go_wp2_with fail
    refine (works_any _ hE).mono ?_
    rintro e w1 ⟨rfl, b1⟩
    clear hE
    go_wp2
    go_ret
    exact ⟨rfl, b1⟩
  · have h2 : (100 : Int) < (c.size : Int) := by omega
    have h1' : (a.size : Int) ≤ 100 := by omega
    clear h h1
    go_enter Tryd.func5, Tryd.ntmps5
    go_wp2_with fail
    refine (works_any _ hE).mono ?_
    rintro e w1 ⟨rfl, b1⟩
    clear hE
    go_wp2
    go_ret
    exact ⟨rfl, b1⟩

set_option maxRecDepth 100000 in
set_option maxHeartbeats 2000000 in
theorem back_in (n : Nat) (a c : ByteArray) (w : World) (hn : n ≤ 2147483647) (ha : (a.size : Int) ≤ 100) (hc : (c.size : Int) ≤ 100) (hE : Env w) :
    Calls Tryd.prog 5 #[.int .i64 (n : Int), .string a, .string c] w fun e w' => e = .returned (.bool true) ∧ Below w.heap.size w w' := by
  obtain ⟨u, hu, hu1, hu2, hput⟩ := put_u n hn
  obtain ⟨v, hv, hv1, hv2, hdel⟩ := delta_u n hn
  have HP := Lib.hid hput
  have HD := Lib.hid hdel
  have HU := Lib.hid hu
  have HV := Lib.hid hv
  have HE0 := Lib.hid hE
  clear hput hdel hu hv hE
  have hwu : ((u.size : Int)) ≤ 10 := by omega
  have hwv : ((v.size : Int)) ≤ 5 := by omega
  go_enter Tryd.func5, Tryd.ntmps5
  go_wp2_with fail
  refine (works_any _ HE0.out).mono ?_
  rintro e w1 ⟨rfl, b1⟩
  have B1 := Lib.hid b1
  have HE1 := Lib.hid (HE0.out.below b1)
  clear b1
  go_wp2_with fail
  refine (HP.out _ HE1.out.2).mono ?_
  rintro e w2 ⟨rfl, b2⟩
  have B2 := Lib.hid (B1.out.trans (b2.mono B1.out.size))
  have HE2 := Lib.hid (HE1.out.below b2)
  clear b2
  go_wp2_with fail
  refine (HD.out _).mono ?_
  rintro e w3 ⟨rfl, b3⟩
  have B3 := Lib.hid (B2.out.trans (b3.mono B2.out.size))
  have HE3 := Lib.hid (HE2.out.below b3)
  clear b3
  go_wp2_with fail
  refine (und_back n hn a v c HV.out (by omega) (by omega) _ HE3.out.1).mono ?_
  rintro e w4 ⟨rfl, b4⟩
  have B4 := Lib.hid (B3.out.trans (b4.mono B3.out.size))
  have HE4 := Lib.hid (HE3.out.below b4)
  clear b4
  by_cases hce : c = ⟨#[]⟩
  · subst hce
    go_wp2_with fail
    refine (get_back n hn a u _ HU.out (by omega) (by omega) (by intro c hc; cases hc) _ HE4.out.1).mono ?_
    rintro e w5 ⟨rfl, b5⟩
    have B5 := Lib.hid (B4.out.trans (b5.mono B4.out.size))
    clear b5
    go_wp2
    go_ret
    exact ⟨rfl, B5.out⟩
  · have hcl : c.toList.isEmpty = false := by
      rw [ByteArray.toList_eq, List.isEmpty_eq_false_iff]
      intro h2
      apply hce
      cases c with | mk d => cases d with | mk l => simp only at h2; subst h2; rfl
    have hc0 : 0 < c.size := by
      rcases Nat.eq_zero_or_pos c.size with h | h
      · exfalso; apply hce
        have h2 : c.data.toList.length = 0 := by simpa using h
        have h3 := List.length_eq_zero_iff.1 h2
        cases c with | mk d => cases d with | mk l => simp only at h3; subst h3; rfl
      · exact h
    obtain ⟨z, hz, hz0, hz1, hix⟩ := ix_int c 0 (by omega) (by omega)
    have hhead : ∀ x, c.data.toList.head? = some x → (x.toNat : Int) = z := by
      intro x hx
      rw [← hz]
      rw [List.head?_eq_getElem?, List.getElem?_eq_getElem (by simpa using hc0)] at hx
      rw [← Option.some.inj hx]
      rfl
    have HH := Lib.hid hhead
    clear hhead hz
    by_cases hd : 48 ≤ z ∧ z ≤ 57
    · go_wp2_with fail
      refine (digit_yes z _ hd.1 hd.2).mono ?_
      rintro e w5 ⟨rfl, rfl⟩
      clear hd
      go_wp2
      go_ret
      exact ⟨rfl, B4.out⟩
    · have hno : noDg c.data.toList := fun x hx => by
        have := HH.out x hx
        simp only [isDg, decide_eq_false_iff_not]
        omega
      have HNO := Lib.hid hno
      clear hno
      go_wp2_with fail
      refine (digit_no z _ (by omega)).mono ?_
      rintro e w5 ⟨rfl, rfl⟩
      clear hd
      go_wp2_with fail
      refine (get_back n hn a u _ HU.out (by omega) (by omega) HNO.out _ HE4.out.1).mono ?_
      rintro e w5 ⟨rfl, b5⟩
      have B5 := Lib.hid (B4.out.trans (b5.mono B4.out.size))
      clear b5
      go_wp2
      go_ret
      exact ⟨rfl, B5.out⟩

theorem law_back (n : Int) (a c : ByteArray) (_hw : (Lit.int .i64 n).wf = true) (ha : a.size ≤ maxLen) (hc : c.size ≤ maxLen) (w : World) (hE : Env w) :
    Calls Tryd.prog 5 #[.int .i64 n, .string a, .string c] w fun e w' => e = .returned (.bool true) ∧ Below w.heap.size w w' := by
  by_cases hb : (100 : Int) < (a.size : Int) ∨ (100 : Int) < (c.size : Int)
  · exact back_big n a c w ha hc hb hE
  · by_cases hn : n < 0 ∨ 2147483647 < n
    · exact back_no n a c w hn (by omega) (by omega) hE
    · obtain ⟨k, rfl⟩ := Int.eq_ofNat_of_zero_le (show 0 ≤ n by omega)
      exact back_in k a c w (by omega) (by omega) (by omega) hE
end Go.Proofs.YtkemaaohmfdhbaaDoor
