import Derived.Test.YtkemaaohmfdhbaaDoorCuts
namespace Go.Proofs.YtkemaaohmfdhbaaDoor
open Go.RowKit
set_option maxRecDepth 100000 in
set_option maxHeartbeats 2000000 in
theorem cuts_in (n : Nat) (c t : Nat) (w : World) (hn : n ≤ 2147483647) (hc : c ≤ 255) (ht : t ≤ 255) (hE : Env w) :
    Calls Tryd.prog 8 #[.int .i64 (n : Int), .int .u8 (c : Int), .int .u8 (t : Int)] w fun e w' => e = .returned (.bool true) ∧ Below w.heap.size w w' := by
  obtain ⟨u, hu, hu1, hu2, hput⟩ := put_u n hn
  obtain ⟨v, hv, hv1, hv2, hdel⟩ := delta_u n hn
  have hr0 : 0 ≤ (t : Int) % (v.size : Int) := Int.emod_nonneg _ (by omega)
  have hr1 : (t : Int) % (v.size : Int) < (v.size : Int) := Int.emod_lt_of_pos _ (by omega)
  have hm : c % 10 < 10 := Nat.mod_lt _ (by omega)
  have hmc : ((c % 10 : Nat) : Int) = (c : Int) % 10 := by omega
  obtain ⟨x, y, z, hxyz, hget⟩ := get_cut n (c % 10) hn hm u hu hu2
  rw [CutR, hmc] at hxyz
  have hdn : ((UInt8.ofNat (48 + c % 10)).toNat : Int) = 48 + (c : Int) % 10 := by rw [UInt8.toNat_ofNat']; omega
  generalize UInt8.ofNat (48 + c % 10) = dg at hget hdn
  have HDN := Lib.hid hdn
  clear hdn
  have HP := Lib.hid hput
  have HD := Lib.hid hdel
  have HU := Lib.hid (und_cut n v _ hv hv2 hr0 hr1)
  have HGET := Lib.hid hget
  have HX := Lib.hid hxyz
  have HE0 := Lib.hid hE
  clear hput hdel hE hu hv hget hxyz
  have hw1 : ((u.size : Int)) ≤ 10 := by omega
  have hw2 : ((v.size : Int)) ≤ 5 := by omega
  have hm0 : 0 ≤ (c : Int) % 10 := by omega
  have hm' : (c : Int) % 10 < 10 := by omega
  have HM := Lib.hid hmc
  clear hmc
  have ht' : (t : Int) ≤ 255 := by omega
  go_enter Tryd.func8, Tryd.ntmps8
  go_wp2_with fail
  refine (works_any _ HE0.out).mono ?_
  rintro e w1 ⟨rfl, b1⟩
  have B1 := Lib.hid b1
  have HE1 := Lib.hid (HE0.out.below b1)
  clear b1
  go_wp2_with fail
  refine (HD.out _).mono ?_
  rintro e w2 ⟨rfl, b2⟩
  have B2 := Lib.hid (B1.out.trans (b2.mono B1.out.size))
  have HE2 := Lib.hid (HE1.out.below b2)
  clear b2
  go_wp2_with fail
  refine (HP.out _ HE2.out.2).mono ?_
  rintro e w3 ⟨rfl, b3⟩
  have B3 := Lib.hid (B2.out.trans (b3.mono B2.out.size))
  have HE3 := Lib.hid (HE2.out.below b3)
  clear b3
  go_wp2_with fail
  refine (HU.out _ HE3.out.1).mono ?_
  rintro e w4 ⟨rfl, b4⟩
  have B4 := Lib.hid (B3.out.trans (b4.mono B3.out.size))
  have HE4 := Lib.hid (HE3.out.below b4)
  clear b4
  have hcv : (convert 34 9 (.slice (some ⟨w4.heap.size, 0, none⟩) 1 1)).run Tryd.prog (w4.alloc (.cells #[.int .u8 (48 + (c : Int) % 10)] 5)) = .ok (.string ⟨#[dg]⟩) (w4.alloc (.cells #[.int .u8 (48 + (c : Int) % 10)] 5)) :=
    run_convert_bytes_back (P := Tryd.prog) (w4.alloc (.cells #[.int .u8 (48 + (c : Int) % 10)] 5)) 34 9 5 ⟨w4.heap.size, 0, none⟩ 1 [dg] Tryd.underlying34 Tryd.underlying5 Tryd.underlying9 (fun j hj => by
      obtain rfl : j = 0 := by simp at hj; omega
      have := (Blk.new w4 #[.int .u8 (48 + (c : Int) % 10)] 5).cell 0
      simp only [List.getElem_cons_zero, HDN.out]
      exact this)
  have B5 := Lib.hid (B4.out.alloc B4.out.size (.cells #[.int .u8 (48 + (c : Int) % 10)] 5))
  have HE5 := Lib.hid (HE4.out.below ((Below.refl _ w4).alloc (Nat.le_refl _) (.cells #[.int .u8 (48 + (c : Int) % 10)] 5)))
  go_wp2_with fail
  refine (HGET.out _ HE5.out.1).mono ?_
  rintro e w6 ⟨rfl, b6⟩
  have B6 := Lib.hid (B5.out.trans (b6.mono B5.out.size))
  clear b6
  rcases HX.out with ⟨rfl, rfl, rfl, h⟩ | ⟨rfl, rfl, rfl⟩
  · by_cases h0 : n = 0
    · subst h0
      clear h
      go_wp2
      go_ret
      exact ⟨rfl, B6.out⟩
    · have h' : 214748363 < (n : Int) := by omega
      have h0' : decide (n = 0) = false := decide_eq_false h0
      clear h
      go_wp2
      go_ret
      exact ⟨rfl, B6.out⟩
  · go_wp2
    go_ret
    exact ⟨rfl, B6.out⟩

theorem law_cuts (n c t : Int) (_h0 : (Lit.int .i64 n).wf = true) (hc : (Lit.int .u8 c).wf = true) (ht : (Lit.int .u8 t).wf = true) (w : World) (hE : Env w) :
    Calls Tryd.prog 8 #[.int .i64 n, .int .u8 c, .int .u8 t] w fun e w' => e = .returned (.bool true) ∧ Below w.heap.size w w' := by
  by_cases hn : n < 0 ∨ 2147483647 < n
  · exact cuts_out n c t w hn hE
  · obtain ⟨k, rfl⟩ := Int.eq_ofNat_of_zero_le (show 0 ≤ n by omega)
    obtain ⟨i, rfl⟩ := Int.eq_ofNat_of_zero_le (u8_wf hc).1
    obtain ⟨j, rfl⟩ := Int.eq_ofNat_of_zero_le (u8_wf ht).1
    exact cuts_in k i j w (by omega) (by have := (u8_wf hc).2; omega) (by have := (u8_wf ht).2; omega) hE
end Go.Proofs.YtkemaaohmfdhbaaDoor
