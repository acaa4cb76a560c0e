/- The document's answers, by definition: Undelta. -/
import Derived.Test.YtkemaaohmfdhbaaDoorTells
import Derived.Test.YtkemaaohmfdhbaaDoorOnly
namespace Go.Proofs.YtkemaaohmfdhbaaDoor
open Go.RowKit

theorem bytes_inj {a b : ByteArray} (h : a.data.toList = b.data.toList) : a = b := by
  cases a with | mk d => cases b with | mk d' => cases d with | mk l => cases d' with | mk l' => simp only at h; subst h; rfl

theorem undV_alt (l : List UInt8) (e : Nat) (he : lastG l = some e) : undV l = if gval (l.take (e + 1)) ≤ 2147483647 ∧ grp (gval (l.take (e + 1))) = l.take (e + 1) then (gval (l.take (e + 1)), e + 1, 0) else (0, 0, 3) := by
  have h1 : undV l = if 5 ≤ e ∨ (0 < e ∧ l[e]? = some 0) ∨ most < gval (l.take (e + 1)) then (0, 0, 3) else (gval (l.take (e + 1)), e + 1, 0) := by
    unfold undV; rw [he]
  by_cases hc : 5 ≤ e ∨ (0 < e ∧ l[e]? = some 0) ∨ most < gval (l.take (e + 1))
  · rw [if_pos hc] at h1
    rw [h1, if_neg]
    rintro ⟨h2, h3⟩
    have h4 := undV_grp (gval (l.take (e + 1))) (l.drop (e + 1)) h2
    rw [h3, List.take_append_drop, h1] at h4
    simp at h4
  · rw [if_neg hc] at h1
    obtain ⟨h2, _, h3⟩ := undV_put h1
    rw [h1, if_pos ⟨h2, h3⟩]

theorem cap_gstep (G : List UInt8) (k : Nat) (h : k < G.length) (d : Int) (hd : (G[k].toNat : Int) = d) : ((cap (gval (G.drop k)) : Nat) : Int) = min (128 * ((cap (gval (G.drop (k + 1))) : Nat) : Int) + d % 128) 2147483648 := by
  rw [gval_drop G k h]
  unfold cap
  omega

theorem rund_out (s : ByteArray) (a : Int) (w : World) (h : a < 0 ∨ (s.size : Int) < a) :
    Calls Tryd.prog 19 #[.string s, .int .i64 a] w fun e w' => e = .returned (three (undR s.data.toList a)) ∧ Below w.heap.size w w' := by
  have hr : undR s.data.toList a = (0, a, 10) := by
    rw [undR]
    split
    · rfl
    · rw [List.drop_of_length_le (by simp; omega)]
      rfl
  rw [hr]
  clear hr
  rcases h with h | h
  · go_enter Tryd.func19, Tryd.ntmps19
    go_wp2
    go_ret3
    exact ⟨rfl, Below.refl _ _⟩
  · have h0 : 0 ≤ a := by omega
    go_enter Tryd.func19, Tryd.ntmps19
    go_wp2
    go_ret3
    exact ⟨rfl, Below.refl _ _⟩

set_option maxRecDepth 100000 in
set_option maxHeartbeats 2000000 in
theorem rund_in (s : ByteArray) (a : Nat) (w : World) (hs : s.size ≤ 100) (h : a ≤ s.size) :
    Calls Tryd.prog 19 #[.string s, .int .i64 (a : Int)] w fun e w' => e = .returned (three (undR s.data.toList (a : Int))) ∧ Below w.heap.size w w' := by
  have hund : undR s.data.toList (a : Int) = if (undV (s.data.toList.drop a)).2.2 = 0 then (((undV (s.data.toList.drop a)).1 : Int), (a : Int) + (undV (s.data.toList.drop a)).2.1, 0) else (0, (a : Int), (undV (s.data.toList.drop a)).2.2) := by
    rw [undR, if_neg (by omega), Int.toNat_natCast]
  have HUND := Lib.hid hund
  clear hund
  have h' : (a : Int) ≤ (s.size : Int) := by omega
  go_enter Tryd.func19, Tryd.ntmps19
  go_wp2
  go_loop [7] (fun i => ∃ b : Nat, a ≤ b ∧ b ≤ s.size ∧ i = .int .i64 (b : Int) ∧ Hid (∀ j, (h : j < b) → a ≤ j → (h' : j < s.size) → ¬ s[j].toNat < 128)) (fun i => s.size - (intOf i).toNat)
  case atStart => exact ⟨a, Nat.le_refl _, h, rfl, Lib.hid fun j h h' => absurd h (by omega)⟩
  case round =>
    obtain ⟨b, hab, hb, rfl, hall⟩ := hrel
    by_cases hlt : b < s.size
    · obtain ⟨c, hc, hc0, hc1, hix⟩ := ix_int s (b : Int) (by omega) (by omega)
      simp only [Int.toNat_natCast] at hc
      have HC := Lib.hid hc
      clear hc
      have hlt' : (b : Int) < (s.size : Int) := by omega
      by_cases hd : c ≤ 127
      · have hr : lastG (s.data.toList.drop a) = some (b - a) := by
          refine lastG_some _ (b - a) (by simp; omega) ?_ (fun j hj => ?_)
          · rw [List.getElem_drop]
            have : s.data.toList[a + (b - a)]'(by simp; omega) = s[b] := by
              simp only [show a + (b - a) = b from by omega]; rfl
            have hcc := HC.out
            rw [this]; omega
          · rw [List.getElem_drop]
            exact hall.out (a + j) (by omega) (by omega) (by omega)
        have hv := undV_alt _ _ hr
        generalize hG : (s.data.toList.drop a).take (b - a + 1) = G at hv
        have hlen : G.length = b - a + 1 := by rw [← hG, List.length_take]; simp; omega
        have hat : ∀ j, (h : a + j < s.size) → j < b - a + 1 → G[j]? = some s[a + j] := by
          intro j h h2
          subst hG
          rw [List.getElem?_take_of_lt (by omega), List.getElem?_drop, List.getElem?_eq_getElem (by simp; omega)]; rfl
        have hsl : (s.extract a (b + 1)).data.toList = G := by
          rw [← hG, show b + 1 = a + (b - a + 1) from by omega, piece]
        have HV := Lib.hid hv
        have HL := Lib.hid hlen
        have HAT := Lib.hid hat
        have HSL := Lib.hid hsl
        have hne : ((b : Int) == (s.size : Int)) = false := by rw [beq_eq_false_iff_ne]; omega
        clear hv hlen hat hsl hr hG
        have hbs : (b : Int) ≤ (s.size : Int) := by omega
        have habi : (a : Int) ≤ (b : Int) := by omega
        go_wp2
        go_loop [8, 9] (fun n i => ∃ (k m : Nat) (v : Int), k ≤ b - a + 1 ∧ i = .int .i64 v ∧ n = .int .i64 (m : Int) ∧ Hid (v = (a : Int) + (k : Int) - 1) ∧ (a : Int) - 1 ≤ v ∧ v ≤ (b : Int) ∧ m ≤ 2147483648 ∧ Hid (m = cap (gval (G.drop k)))) (fun _ i => (intOf i - (a : Int) + 1).toNat)
        case atStart =>
          refine ⟨b - a + 1, 0, b, Nat.le_refl _, rfl, rfl, Lib.hid (by omega), by omega, by omega, by omega, Lib.hid ?_⟩
          rw [List.drop_of_length_le (by rw [HL.out]; exact Nat.le_refl _)]; rfl
        case round =>
          obtain ⟨k, m, v, hk, rfl, rfl, hv, hv1, hv2, hm, hmc⟩ := hrel
          cases k with
          | zero =>
            have hva : decide ((a : Int) ≤ v) = false := decide_eq_false (by have := hv.out; omega)
            rw [List.drop_zero] at hmc
            by_cases hbig : 2147483647 < m
            · have hcond : ¬ (gval G ≤ 2147483647 ∧ grp (gval G) = G) := fun h => by have := hmc.out; have := h.1; unfold cap at *; omega
              have HCO := Lib.hid hcond
              clear hcond
              go_wp2_with fail
              refine (rdelta_no (m : Int) _ (.inr (by omega))).mono ?_
              rintro e w' ⟨rfl, hb'⟩
              have HB' := Lib.hid hb'
              clear hb'
              go_wp2
              go_ret3
              refine ⟨?_, HB'.out⟩
              rw [HUND.out, HV.out, if_neg HCO.out]
              rfl
            · have hmv : m = gval G := by have := hmc.out; unfold cap at this; omega
              have HM := Lib.hid hmv
              clear hmv
              obtain ⟨u, hu, hru⟩ : ∃ u : ByteArray, u.data.toList = grp m ∧ ∀ w, Calls Tryd.prog 17 #[.int .i64 (m : Int)] w fun e w' => e = .returned (.tuple #[.string u, .int .i64 0]) ∧ Below w.heap.size w w' := ⟨_, rfl, fun w => rdelta_yes m w (by omega)⟩
              have HRU := Lib.hid hru
              have hsl' := slice_eq s a (b + 1 - a) (by omega)
              rw [show (a : Int) + ((b + 1 - a : Nat) : Int) = (b : Int) + 1 from by omega, show a + (b + 1 - a) = b + 1 from by omega] at hsl'
              have HU := Lib.hid hu
              clear hru hu
              generalize s.extract a (b + 1) = X at hsl' HSL
              go_wp2_with fail
              refine (HRU.out _).mono ?_
              rintro e w' ⟨rfl, hb'⟩
              have HB' := Lib.hid hb'
              clear hb'
              by_cases hux : u = X
              · subst hux
                have hG : grp (gval G) = G := by rw [← HM.out, ← HU.out]; exact HSL.out
                have hle : gval G ≤ 2147483647 := by rw [← HM.out]; omega
                have HG1 := Lib.hid hG
                have HG2 := Lib.hid hle
                clear hG hle
                go_wp2
                go_ret3
                refine ⟨?_, HB'.out⟩
                have hv' := HV.out
                rw [if_pos ⟨HG2.out, HG1.out⟩] at hv'
                rw [HUND.out, hv', if_pos rfl]
                show Ending.returned (.tuple #[.int .i64 (m : Int), .int .i64 ((b : Int) + 1), .int .i64 0]) = _
                rw [HM.out]
                show Ending.returned (.tuple #[.int .i64 (gval G : Int), .int .i64 ((b : Int) + 1), .int .i64 0]) = Ending.returned (.tuple #[.int .i64 (gval G : Int), .int .i64 ((a : Int) + ((b - a + 1 : Nat) : Int)), .int .i64 0])
                rw [show (a : Int) + ((b - a + 1 : Nat) : Int) = (b : Int) + 1 from by omega]
              · have hnb : (u.toList == X.toList) = false := by
                  rw [ByteArray.toList_eq, ByteArray.toList_eq, beq_eq_false_iff_ne]
                  intro h
                  apply hux
                  exact bytes_inj h
                have hcond : ¬ (gval G ≤ 2147483647 ∧ grp (gval G) = G) := fun h => hux (bytes_inj (by rw [HU.out, HM.out, h.2, HSL.out]))
                have HCO := Lib.hid hcond
                clear hcond hux
                go_wp2
                go_ret3
                refine ⟨?_, HB'.out⟩
                rw [HUND.out, HV.out, if_neg HCO.out]
                rfl
          | succ k =>
            have hbe : v = (a : Int) + (k : Int) := by have := hv.out; push_cast at this; omega
            have hba : (a : Int) ≤ v := by omega
            obtain ⟨d, hd0, hd1, hd2, hixd⟩ := ix_int s v (by omega) (by omega)
            have hnext : ((cap (gval (G.drop k)) : Nat) : Int) = min (128 * (m : Int) + d % 128) 2147483648 := by
              have hk' : k < G.length := by rw [HL.out]; omega
              rw [hmc.out]
              refine cap_gstep G k hk' d ?_
              have h1 := HAT.out k (by omega) (by omega)
              rw [List.getElem?_eq_getElem hk'] at h1
              have h2 := Option.some.inj h1
              have h3 : v.toNat = a + k := by omega
              simp only [h3] at hd0
              rw [h2]
              exact hd0
            have HN := Lib.hid hnext
            have HBE := Lib.hid hbe
            clear hnext hbe hd0 hix hd
            go_wp2
            refine ⟨⟨k, cap (gval (G.drop k)), v - 1, by omega, by go_num, by rw [HN.out], Lib.hid (by have := HBE.out; omega), by omega, by omega, by unfold cap; omega, Lib.hid rfl⟩, ?_⟩
            simp [intOf]; omega
      · have hd' : (127 : Int) < c := by omega
        clear hd
        go_wp2
        refine ⟨⟨b + 1, by omega, by omega, by go_num, Lib.hid fun j h h1 h' => ?_⟩, ?_⟩
        · by_cases hj : j < b
          · exact hall.out j hj h1 h'
          · have : j = b := by omega
            subst this
            have := HC.out
            omega
        · simp [intOf]; omega
    · have hr : lastG (s.data.toList.drop a) = none := by
        refine lastG_none _ (fun c hc => ?_)
        obtain ⟨j, hj, rfl⟩ := List.getElem_of_mem hc
        rw [List.getElem_drop]
        simp at hj
        exact hall.out (a + j) (by omega) (by omega) (by omega)
      have hv : undV (s.data.toList.drop a) = (0, 0, 10) := by unfold undV; rw [hr]
      have HV := Lib.hid hv
      have hbs : (b : Int) = (s.size : Int) := by omega
      clear hr hv
      go_wp2
      go_ret3
      refine ⟨?_, Below.refl _ _⟩
      rw [HUND.out, HV.out]
      rfl
end Go.Proofs.YtkemaaohmfdhbaaDoor
