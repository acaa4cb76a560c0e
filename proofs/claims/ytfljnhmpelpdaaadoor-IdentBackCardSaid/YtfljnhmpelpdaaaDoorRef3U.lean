/- The document's own reading of digits. -/
import Derived.Test.YtfljnhmpelpdaaaDoorRef3
import Derived.Deep.RegionWith
namespace Go.Proofs.YtfljnhmpelpdaaaDoor
open Go.RowKit
set_option maxRecDepth 100000 in
set_option maxHeartbeats 0 in
theorem runhex_any (s : ByteArray) (w : World) (hs : s.size ≤ 100000) : Calls Tryd.prog 48 #[.string s] w (Unh w (unhexF s.data.toList) s.size) := by
  obtain ⟨R, hR⟩ : ∃ R, unhexF s.data.toList = R := ⟨_, rfl⟩
  rw [hR]
  have HR0 := Lib.hid hR
  clear hR
  go_enter Tryd.func48, Tryd.ntmps48
  go_wp2
  go_loopw [4, 5] (fun v i wr => ∃ (j : Nat) (T : ByteArray), 2 * j ≤ s.size ∧ v = .string T ∧ i = .int .i64 ((2 * j : Nat) : Int) ∧ T.size = j ∧ Below w.heap.size w wr ∧ Hid ((unhexF (s.data.toList.drop (2 * j))).map (T.data.toList ++ ·) = R)) (fun _ i _ => s.size - (intOf i).toNat)
  case atStart => exact ⟨0, _, Nat.zero_le _, rfl, rfl, rfl, Below.refl _ _, Lib.hid (by rw [← HR0.out]; simp)⟩
  case round =>
    obtain ⟨j, T, hj, rfl, rfl, hT, hB, hrun⟩ := hrel
    have HB := Lib.hid hB
    clear hB
    by_cases h2 : 2 * j + 1 < s.size
    · have hlt : 2 * j < s.size := by omega
      have hlt' : ((2 * j : Nat) : Int) + 1 < (s.size : Int) := by omega
      have hix1 := get_run s (2 * j) hlt
      have hix2 := get_run s (2 * j + 1) h2
      rw [show ((2 * j + 1 : Nat) : Int) = ((2 * j : Nat) : Int) + 1 from by omega] at hix2
      have hrun2 := hrun.out
      rw [drop2 _ _ _ _ (get_list s _ hlt) (get_list s _ h2), unhexF] at hrun2
      generalize s[2 * j] = a at hix1 hrun2
      generalize s[2 * j + 1] = b at hix2 hrun2
      obtain ⟨m, hm⟩ : ∃ m, 2 * j = m := ⟨_, rfl⟩
      rw [hm] at hix1 hix2 hlt' hlt h2 hrun2 ⊢
      have HM := Lib.hid hm
      have hja : (m : Int) ≤ 100000 := by omega
      have HT := Lib.hid hT
      have hjs : (T.size : Int) ≤ 100000 := by omega
      have hsame : (b.toNat : Int) = (a.toNat : Int) → ix a = ix b := fun h => by rw [show a = b from UInt8.toNat_inj.1 (by omega)]
      have hpa := ix_bd a
      have hpb := ix_bd b
      have hq1 := rhd_any a
      have hq2 := rhd_any b
      generalize ix a = p at hpa hq1 hrun2 hsame
      generalize ix b = q at hpb hq2 hrun2 hsame
      generalize (a.toNat : Int) = za at hix1 hq1 hsame
      generalize (b.toNat : Int) = zb at hix2 hq2 hsame
      have HQ1 := Lib.hid hq1
      have HQ2 := Lib.hid hq2
      have HRUN := Lib.hid hrun2
      clear hq1 hq2 hrun2 hm hT hj hrun
      by_cases hp : p < 0
      · have hRn : R = none := by
          have := HRUN.out
          rw [if_pos (.inl hp)] at this
          exact this.symm
        subst hRn
        clear HRUN
        go_wp2_with fail
        refine (HQ1.out _).mono ?_
        rintro e w' ⟨rfl, rfl⟩
        go_wp2
        go_ret2
        exact ⟨⟨_, _, rfl, Nat.zero_le _, .inr ⟨rfl, rfl⟩⟩, HB.out⟩
      · by_cases hq : q < 0
        · have hRn : R = none := by
            have := HRUN.out
            rw [if_pos (.inr hq)] at this
            exact this.symm
          have hp' : decide (p < 0) = false := decide_eq_false hp
          subst hRn
          clear HRUN
          go_wp2_with fail
          refine (HQ1.out _).mono ?_
          rintro e w' ⟨rfl, rfl⟩
          go_wp2_with fail
          refine (HQ2.out _).mono ?_
          rintro e w' ⟨rfl, rfl⟩
          go_wp2
          go_ret2
          exact ⟨⟨_, _, rfl, Nat.zero_le _, .inr ⟨rfl, rfl⟩⟩, HB.out⟩
        · have hrun3 := HRUN.out
          rw [if_neg (by omega)] at hrun3
          obtain ⟨pn, hpn⟩ := Int.eq_ofNat_of_zero_le (show 0 ≤ p by omega)
          obtain ⟨qn, hqn⟩ := Int.eq_ofNat_of_zero_le (show 0 ≤ q by omega)
          rw [hpn, hqn, Int.toNat_natCast, Int.toNat_natCast] at hrun3
          have HRUN3 := Lib.hid hrun3
          obtain ⟨g, hg1, hg2, hg⟩ : ∃ g : Int → Int, g za = p ∧ g zb = q ∧ ∀ z : Int, (z = za ∨ z = zb) → ∀ wx : World, Calls Tryd.prog 65 #[.int .u8 z] wx fun e w' => e = .returned (.int .i64 (g z)) ∧ wx = w' := by
            by_cases hab : zb = za
            · subst hab
              have hpq : p = q := by
                exact hsame rfl
              refine ⟨fun _ => p, rfl, hpq, fun z hz wx => ?_⟩
              rcases hz with rfl | rfl <;> exact HQ1.out wx
            · refine ⟨fun z => if z = za then p else q, if_pos rfl, if_neg hab, fun z hz wx => ?_⟩
              rcases hz with rfl | rfl
              · simp only [if_pos]; exact HQ1.out wx
              · simp only [if_neg hab]; exact HQ2.out wx
          have HG := Lib.hid hg
          clear hsame
          have hp' : decide (p < 0) = false := decide_eq_false hp
          have hq' : decide (q < 0) = false := decide_eq_false hq
          have GP := Lib.hid (And.intro hpn hqn)
          clear hrun3 HRUN hg hpn hqn
          go_wp2_with fail
          refine (HQ1.out _).mono ?_
          rintro e w' ⟨rfl, rfl⟩
          go_wp2_with fail
          refine (HQ2.out _).mono ?_
          rintro e w' ⟨rfl, rfl⟩
          go_wp2_with fail
          rw [← hg1] at hp hpa hp'
          rw [← hg2] at hq hpb hq'
          have w1 : IntKind.i64.wrap ((m : Int) + 1) = (m : Int) + 1 := IntWalk.i64_in _ (by omega)
          have w2 : IntKind.i64.wrap (16 * g za) = 16 * g za := IntWalk.i64_in _ (by omega)
          have w3 : IntKind.i64.wrap (16 * g za + g zb) = 16 * g za + g zb := IntWalk.i64_in _ (by omega)
          have w4 : IntKind.u8.wrap (16 * g za + g zb) = 16 * g za + g zb := IntWalk.u8_in _ (by omega)
          have w5 : (0 : Int) ≤ (m : Int) + 1 := by omega
          have w6 : ((m : Int) + 1).toNat = m + 1 := by omega
          have hcd := oneT_runD wr (16 * g za + g zb) (by omega) (by omega)
          have hos := oneT_size (16 * g za + g zb)
          have HPA := Lib.hid (And.intro hp hq)
          have G12 := Lib.hid (And.intro hg1 hg2)
          clear hg1 hg2 hp hq hpa hpb hp' hq'
          go_region_with (go_at_call 65; refine (HG.out _ ?hz _).mono ?_; (case hz => first | exact .inl rfl | exact .inr rfl); rintro e w' ⟨rfl, rfl⟩)
          all_goals
            clear w1 w2 w3 w4 w6
            go_wp2
            refine ⟨⟨j + 1, _, by have := HM.out; omega, rfl, ?_, ?_, (HB.out.alloc HB.out.size _).drew, Lib.hid ?_⟩, ?_⟩
            · have := HM.out
              rw [← this]
              simp; omega
            · rw [ByteArray.size_append, HT.out]; rfl
            · have := HRUN3.out
              rw [← HM.out] at this
              rw [show 2 * (j + 1) = 2 * j + 2 from by omega, ← this, Option.map_map]
              have e : (16 * g za + g zb).toNat = 16 * pn + qn := by rw [G12.out.1, G12.out.2, GP.out.1, GP.out.2]; omega
              congr 1
              funext x
              rw [ByteArray.data_append, Array.toList_append, oneT_list, e]
              simp
            · simp [intOf]; omega
    · have hge : (s.size : Int) ≤ ((2 * j : Nat) : Int) + 1 := by omega
      have hsz0 := hj
      have HT := Lib.hid hT
      have hjs : (T.size : Int) ≤ 100000 := by omega
      by_cases hev : 2 * j = s.size
      · have hRT : R = some T.data.toList := by
          rw [← hrun.out, hev, List.drop_of_length_le (by simp)]
          simp [unhexF]
        have ho : ((s.size : Int) % 2 == 0) = true := by rw [beq_iff_eq]; omega
        have HRT := Lib.hid hRT
        have HS := Lib.hid (show T.size ≤ s.size by omega)
        clear hRT hrun hT hev
        go_wp2
        go_ret2
        exact ⟨⟨T, true, rfl, HS.out, .inl ⟨rfl, HRT.out⟩⟩, HB.out⟩
      · have hod : s.size = 2 * j + 1 := by omega
        have hRn : R = none := by
          rw [← hrun.out, unhexF_odd _ (by rw [List.length_drop]; simp; omega)]
          rfl
        have ho : ((s.size : Int) % 2 == 0) = false := by rw [beq_eq_false_iff_ne]; omega
        have HRT := Lib.hid hRn
        have HS := Lib.hid (show T.size ≤ s.size by omega)
        clear hRn hrun hT hev hod
        go_wp2
        go_ret2
        exact ⟨⟨T, false, rfl, HS.out, .inr ⟨rfl, HRT.out⟩⟩, HB.out⟩
end Go.Proofs.YtfljnhmpelpdaaaDoor
