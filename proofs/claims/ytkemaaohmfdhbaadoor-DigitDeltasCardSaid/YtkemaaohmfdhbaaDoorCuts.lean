/- DigitCuts: groups that end too early are none; a number with more digits behind it is another one, or none. -/
import Derived.Test.YtkemaaohmfdhbaaDoorOrder
namespace Go.Proofs.YtkemaaohmfdhbaaDoor
open Go.RowKit

theorem piece0 (s : ByteArray) (k : Nat) : (s.extract 0 k).data.toList = s.data.toList.take k := by
  rw [ByteArray.data_extract, Array.toList_extract, List.extract_eq_take_drop, List.drop_zero, Nat.sub_zero]
theorem u8_wf {a : Int} (h : (Lit.int .u8 a).wf = true) : 0 ≤ a ∧ a ≤ 255 := by simpa [Lit.wf, IntKind.min, IntKind.max, IntKind.signed, IntKind.bits] using h

theorem und_cut (n : Nat) (v : ByteArray) (r : Int) (hv : v.data.toList = grp n) (hs : v.size ≤ 5) (_h0 : 0 ≤ r) (h1 : r < v.size) (w : World) (hg : HG w) :
    Calls Tryd.prog 18 #[.string (v.extract 0 r.toNat), .int .i64 0] w fun e w' => e = .returned (.tuple #[.int .i64 0, .int .i64 0, .int .i64 10]) ∧ Below w.heap.size w w' := by
  have h := und_any (v.extract 0 r.toNat) 0 w (by rw [ByteArray.size_extract]; unfold maxLen; omega) hg
  have e : undR (v.extract 0 r.toNat).data.toList 0 = (0, 0, 10) := by
    have hl : v.data.toList.length = v.size := by simp
    have hn : lastG (v.extract 0 r.toNat).data.toList = none := by
      refine lastG_none _ fun c hc => ?_
      have hp := piece0 v r.toNat
      rw [hp, hv] at hc
      obtain ⟨l, x, e, h1', _, _⟩ := grp_split n
      rw [hv, e, List.length_append, List.length_singleton] at hl
      rw [e, List.take_append_of_le_length (by omega)] at hc
      exact h1' c (List.mem_of_mem_take hc)
    rw [undR, if_neg (by omega), Int.toNat_zero, List.drop_zero, undV, hn]
    rfl
  rw [e] at h
  exact h
/-- the number with a digit behind it -/
def CutR (n m : Nat) (u : ByteArray) (x y z : Int) : Prop :=
  (z = 3 ∧ x = 0 ∧ y = 0 ∧ (n = 0 ∨ 214748363 < (n : Int))) ∨ (z = 0 ∧ x = 10 * (n : Int) + (m : Int) ∧ y = (u.size : Int) + 1)
theorem get_cut (n m : Nat) (hn : n ≤ 2147483647) (hm : m < 10) (u : ByteArray) (hu : u.data.toList = Lib.decDigits n) (hs : u.size ≤ 10) :
    ∃ x y z : Int, CutR n m u x y z ∧ ∀ w, HG w → Calls Tryd.prog 12 #[.string (u ++ ⟨#[UInt8.ofNat (48 + m)]⟩), .int .i64 0] w fun e w' => e = .returned (.tuple #[.int .i64 x, .int .i64 y, .int .i64 z]) ∧ Below w.heap.size w w' := by
  have hl : u.data.toList.length = u.size := by simp
  have hany := fun w hg => get_any (u ++ ⟨#[UInt8.ofNat (48 + m)]⟩) 0 w (by rw [ByteArray.size_append, show (⟨#[UInt8.ofNat (48 + m)]⟩ : ByteArray).size = 1 from rfl]; unfold maxLen; omega) hg
  have hap : (u ++ ⟨#[UInt8.ofNat (48 + m)]⟩ : ByteArray).data.toList = Lib.decDigits n ++ [UInt8.ofNat (48 + m)] := by simp [hu]
  rw [hap] at hany
  rw [getR, if_neg (by simp; omega), Int.toNat_zero, List.drop_zero] at hany
  by_cases h0 : n = 0
  · have : getV (Lib.decDigits n ++ [UInt8.ofNat (48 + m)]) = none := by
      subst h0
      have hr : run (Lib.decDigits 0 ++ [UInt8.ofNat (48 + m)]) = Lib.decDigits 0 ++ [UInt8.ofNat (48 + m)] := by
        have := run_app (Lib.decDigits 0 ++ [UInt8.ofNat (48 + m)]) [] (fun c hc => by
          rcases List.mem_append.1 hc with h | h
          · exact dec_dg 0 c h
          · rw [List.mem_singleton.1 h]; exact isDg_of hm) (by intro c hc; cases hc)
        rwa [List.append_nil] at this
      rw [getV, hr, if_pos]
      refine .inr (.inr (.inl ⟨?_, ?_⟩))
      · have := dec_pos 0
        simp; omega
      · rw [dec_small (by omega)]; rfl
    rw [this] at hany
    exact ⟨0, 0, 3, .inl ⟨rfl, rfl, rfl, .inl h0⟩, hany⟩
  · have hd : Lib.decDigits n ++ [UInt8.ofNat (48 + m)] = Lib.decDigits (10 * n + m) := by
      rw [dec_big (show ¬ 10 * n + m < 10 by omega), show (10 * n + m) / 10 = n from by omega, show (10 * n + m) % 10 = m from by omega]
    rw [hd] at hany
    by_cases hb : 10 * n + m ≤ 2147483647
    · have := getV_dec (10 * n + m) [] hb (by intro c hc; cases hc)
      rw [List.append_nil] at this
      rw [this] at hany
      have h2 := congrArg List.length hd
      rw [← hu] at h2
      simp only [List.length_append, List.length_singleton, hl] at h2
      exact ⟨_, _, _, .inr ⟨rfl, by push_cast; rfl, by rw [← h2]; push_cast; omega⟩, hany⟩
    · have : getV (Lib.decDigits (10 * n + m)) = none := by
        have hr : run (Lib.decDigits (10 * n + m)) = Lib.decDigits (10 * n + m) := by
          have := run_app (Lib.decDigits (10 * n + m)) [] (dec_dg _) (by intro c hc; cases hc)
          rwa [List.append_nil] at this
        rw [getV, hr, dec_val, if_pos (.inr (.inr (.inr (by unfold most; omega))))]
      rw [this] at hany
      exact ⟨0, 0, 3, .inl ⟨rfl, rfl, rfl, .inr (by omega)⟩, hany⟩

set_option maxRecDepth 100000 in
set_option maxHeartbeats 2000000 in
theorem cuts_out (n c t : Int) (w : World) (hno : n < 0 ∨ 2147483647 < n) (hE : Env w) :
    Calls Tryd.prog 8 #[.int .i64 n, .int .u8 c, .int .u8 t] w fun e w' => e = .returned (.bool true) ∧ Below w.heap.size w w' := by
  have HN := Lib.hid hno
  clear hno
  go_enter Tryd.func8, Tryd.ntmps8
  go_wp2_with fail
  refine (works_any _ hE).mono ?_
  rintro e w1 ⟨rfl, b1⟩
  have B1 := Lib.hid b1
  clear b1 hE
  go_wp2_with fail
  refine (delta_no n _ HN.out).mono ?_
  rintro e w2 ⟨rfl, b2⟩
  have B2 := Lib.hid (B1.out.trans (b2.mono B1.out.size))
  clear b2
  go_wp2_with fail
  refine (put_no n _ HN.out).mono ?_
  rintro e w3 ⟨rfl, b3⟩
  have B3 := Lib.hid (B2.out.trans (b3.mono B2.out.size))
  clear b3
  go_wp2
  go_ret
  exact ⟨rfl, B3.out⟩

end Go.Proofs.YtkemaaohmfdhbaaDoor
