/- DigitOnly: what is got is put just so. -/
import Derived.Test.YtkemaaohmfdhbaaDoorBack
import Derived.Laws.DeepStrings4
namespace Go.Proofs.YtkemaaohmfdhbaaDoor
open Go.RowKit

theorem piece (s : ByteArray) (k m : Nat) : (s.extract k (k + m)).data.toList = (s.data.toList.drop k).take m := by
  rw [ByteArray.data_extract, Array.toList_extract, List.extract_eq_take_drop, Nat.add_sub_cancel_left]
theorem ofList {u : ByteArray} {l : List UInt8} (h : u.data.toList = l) : (⟨l.toArray⟩ : ByteArray) = u := by
  subst h; rfl

/-- a number is told, from a on to p: it is put as u, and so the bytes there are -/
def GotAt (s : ByteArray) (a : Int) (f g : Nat) (n : Nat) (p : Int) (u : ByteArray) : Prop :=
  0 ≤ a ∧ a ≤ p ∧ p ≤ (s.size : Int) ∧
  (∀ w, Env w → Calls Tryd.prog f #[.string s, .int .i64 a] w fun e w' => e = .returned (.tuple #[.int .i64 (n : Int), .int .i64 p, .int .i64 0]) ∧ Below w.heap.size w w') ∧
  (∀ w, Env w → Calls Tryd.prog g #[.int .i64 (n : Int)] w fun e w' => e = .returned (.tuple #[.string u, .int .i64 0]) ∧ Below w.heap.size w w') ∧
  (∀ wx : World, (Instr.slice 9 (.string s) (some (.int .i64 a)) (some (.int .i64 p)) none).run Tryd.prog wx = .ok (.string u) wx)

theorem slice_eq (s : ByteArray) (k m : Nat) (h : k + m ≤ s.size) (wx : World) :
    (Instr.slice 9 (.string s) (some (.int .i64 (k : Int))) (some (.int .i64 ((k : Int) + (m : Int)))) none).run Tryd.prog wx = .ok (.string (s.extract k (k + m))) wx := by
  have := run_slice_string (P := Tryd.prog) wx 9 s .i64 .i64 (k : Int) ((k : Int) + (m : Int)) Tryd.underlying9 (by omega) (by omega) (by omega)
  rw [this]
  congr

theorem only_get (s : ByteArray) (a : Int) (hs : s.size ≤ 100) :
    (∃ n p u, GotAt s a 12 10 n p u) ∨ (∀ w, Env w → Calls Tryd.prog 12 #[.string s, .int .i64 a] w fun e w' => e = .returned (.tuple #[.int .i64 0, .int .i64 a, .int .i64 3]) ∧ Below w.heap.size w w') := by
  have hany := fun w hg => get_any s a w (by unfold maxLen; omega) hg
  unfold getR at hany
  by_cases hb : a < 0 ∨ (s.data.toList.length : Int) < a
  · rw [if_pos hb] at hany
    exact .inr fun w hE => hany w hE.1
  · rw [if_neg hb] at hany
    cases hv : getV (s.data.toList.drop a.toNat) with
    | none => rw [hv] at hany; exact .inr fun w hE => hany w hE.1
    | some q =>
      obtain ⟨n, m⟩ := q
      rw [hv] at hany
      obtain ⟨h1, h2, h3⟩ := getV_put hv
      obtain ⟨k, rfl⟩ := Int.eq_ofNat_of_zero_le (show 0 ≤ a by omega)
      simp only [Int.toNat_natCast] at h2 h3
      simp only [List.length_drop] at h2
      have hl : s.data.toList.length = s.size := by simp
      refine .inl ⟨n, (k : Int) + m, s.extract k (k + m), by omega, by omega, by omega, fun w hE => hany w hE.1, fun w hE => ?_, slice_eq s k m (by omega)⟩
      have := put_yes n w hE.2 h1
      rw [ofList ((piece s k m).trans h3.symm)] at this
      exact this

theorem only_und (s : ByteArray) (a : Int) (hs : s.size ≤ 100) :
    (∃ n p u, GotAt s a 18 16 n p u) ∨ (∃ x : Int, x ≠ 0 ∧ ∀ w, Env w → Calls Tryd.prog 18 #[.string s, .int .i64 a] w fun e w' => e = .returned (.tuple #[.int .i64 0, .int .i64 a, .int .i64 x]) ∧ Below w.heap.size w w') := by
  have hany := fun w hg => und_any s a w (by unfold maxLen; omega) hg
  unfold undR at hany
  by_cases hb : a < 0
  · rw [if_pos hb] at hany
    exact .inr ⟨10, by omega, fun w hE => hany w hE.1⟩
  · rw [if_neg hb] at hany
    by_cases hz : (undV (s.data.toList.drop a.toNat)).2.2 = 0
    · rw [if_pos hz] at hany
      have hv : undV (s.data.toList.drop a.toNat) = ((undV (s.data.toList.drop a.toNat)).1, (undV (s.data.toList.drop a.toNat)).2.1, 0) := by rw [← hz]
      generalize (undV (s.data.toList.drop a.toNat)).1 = n at *
      generalize (undV (s.data.toList.drop a.toNat)).2.1 = m at *
      obtain ⟨h1, h2, h3⟩ := undV_put hv
      obtain ⟨k, rfl⟩ := Int.eq_ofNat_of_zero_le (show 0 ≤ a by omega)
      simp only [Int.toNat_natCast] at h2 h3
      simp only [List.length_drop] at h2
      have hl : s.data.toList.length = s.size := by simp
      have hm : 1 ≤ m := by
        have := grp_pos n
        rw [h3, List.length_take] at this
        omega
      refine .inl ⟨n, (k : Int) + m, s.extract k (k + m), by omega, by omega, by omega, fun w hE => hany w hE.1, fun w hE => ?_, slice_eq s k m (by omega)⟩
      have := delta_yes n w h1
      rw [ofList ((piece s k m).trans h3.symm)] at this
      exact this
    · rw [if_neg hz] at hany
      exact .inr ⟨_, hz, fun w hE => hany w hE.1⟩

set_option maxRecDepth 100000 in
set_option maxHeartbeats 2000000 in
theorem only_big (s : ByteArray) (a : Int) (w : World) (_hm : s.size ≤ maxLen) (h : (100 : Int) < (s.size : Int)) (hE : Env w) :
    Calls Tryd.prog 6 #[.string s, .int .i64 a] w fun e w' => e = .returned (.bool true) ∧ Below w.heap.size w w' := by
  go_enter Tryd.func6, Tryd.ntmps6
  go_wp2_with fail
  refine (works_any _ hE).mono ?_
  rintro e w1 ⟨rfl, b1⟩
  clear hE
  go_wp2
  go_ret
  exact ⟨rfl, b1⟩

set_option maxRecDepth 100000 in
set_option maxHeartbeats 2000000 in
theorem only_in (s : ByteArray) (a : Int) (w : World) (hs : (s.size : Int) ≤ 100) (hE : Env w) :
    Calls Tryd.prog 6 #[.string s, .int .i64 a] w fun e w' => e = .returned (.bool true) ∧ Below w.heap.size w w' := by
  have HE0 := Lib.hid hE
  have HU := Lib.hid (only_und s a (by omega))
  have HG0 := Lib.hid (only_get s a (by omega))
  clear hE
  go_enter Tryd.func6, Tryd.ntmps6
  go_wp2_with fail
  refine (works_any _ HE0.out).mono ?_
  rintro e w1 ⟨rfl, b1⟩
  have B1 := Lib.hid b1
  have HE1 := Lib.hid (HE0.out.below b1)
  clear b1
  rcases HG0.out with ⟨n, p, u, ha, hap, hp, hget, hput, hsl⟩ | hget
  · have HGET := Lib.hid hget
    have HPUT := Lib.hid hput
    clear hget hput HG0
    go_wp2_with fail
    refine (HGET.out _ HE1.out).mono ?_
    rintro e w2 ⟨rfl, b2⟩
    have B2 := Lib.hid (B1.out.trans (b2.mono B1.out.size))
    have HE2 := Lib.hid (HE1.out.below b2)
    clear b2
    go_wp2_with fail
    refine (HPUT.out _ HE2.out).mono ?_
    rintro e w3 ⟨rfl, b3⟩
    have B3 := Lib.hid (B2.out.trans (b3.mono B2.out.size))
    have HE3 := Lib.hid (HE2.out.below b3)
    clear b3
    go_wp2_with fail
    rcases HU.out with ⟨m, q, v, -, haq, hq, hund, hdel, hsl2⟩ | ⟨x, hx, hund⟩
    · have HD := Lib.hid hdel
      clear hdel
      refine (hund _ HE3.out).mono ?_
      rintro e w4 ⟨rfl, b4⟩
      have B4 := Lib.hid (B3.out.trans (b4.mono B3.out.size))
      have HE4 := Lib.hid (HE3.out.below b4)
      clear b4 hund HU
      go_wp2_with fail
      refine (HD.out _ HE4.out).mono ?_
      rintro e w5 ⟨rfl, b5⟩
      have B5 := Lib.hid (B4.out.trans (b5.mono B4.out.size))
      clear b5
      go_wp2
      go_ret
      exact ⟨rfl, B5.out⟩
    · refine (hund _ HE3.out).mono ?_
      rintro e w4 ⟨rfl, b4⟩
      have B4 := Lib.hid (B3.out.trans (b4.mono B3.out.size))
      clear b4 hund HU
      have hxd : decide (x = 0) = false := decide_eq_false hx
      go_wp2
      go_ret
      exact ⟨rfl, B4.out⟩
  · have HGET := Lib.hid hget
    clear hget HG0
    go_wp2_with fail
    refine (HGET.out _ HE1.out).mono ?_
    rintro e w3 ⟨rfl, b3⟩
    have B3 := Lib.hid (B1.out.trans (b3.mono B1.out.size))
    have HE3 := Lib.hid (HE1.out.below b3)
    clear b3
    go_wp2_with fail
    rcases HU.out with ⟨m, q, v, ha, haq, hq, hund, hdel, hsl2⟩ | ⟨x, hx, hund⟩
    · have HD := Lib.hid hdel
      clear hdel
      refine (hund _ HE3.out).mono ?_
      rintro e w4 ⟨rfl, b4⟩
      have B4 := Lib.hid (B3.out.trans (b4.mono B3.out.size))
      have HE4 := Lib.hid (HE3.out.below b4)
      clear b4 hund HU
      go_wp2_with fail
      refine (HD.out _ HE4.out).mono ?_
      rintro e w5 ⟨rfl, b5⟩
      have B5 := Lib.hid (B4.out.trans (b5.mono B4.out.size))
      clear b5
      go_wp2
      go_ret
      exact ⟨rfl, B5.out⟩
    · refine (hund _ HE3.out).mono ?_
      rintro e w4 ⟨rfl, b4⟩
      have B4 := Lib.hid (B3.out.trans (b4.mono B3.out.size))
      clear b4 hund HU
      have hxd : decide (x = 0) = false := decide_eq_false hx
      go_wp2
      go_ret
      exact ⟨rfl, B4.out⟩

theorem law_only (s : ByteArray) (a : Int) (hs : s.size ≤ maxLen) (_hw : (Lit.int .i64 a).wf = true) (w : World) (hE : Env w) :
    Calls Tryd.prog 6 #[.string s, .int .i64 a] w fun e w' => e = .returned (.bool true) ∧ Below w.heap.size w w' := by
  by_cases hb : (100 : Int) < (s.size : Int)
  · exact only_big s a w hs hb hE
  · exact only_in s a w (by omega) hE
end Go.Proofs.YtkemaaohmfdhbaaDoor
