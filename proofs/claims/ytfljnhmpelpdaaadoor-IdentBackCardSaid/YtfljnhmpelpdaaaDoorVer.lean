/- What the formats take as it is: the laws; Legal. -/
import Derived.Test.YtfljnhmpelpdaaaDoorKept
import Derived.BigQuiet
import Derived.Deep.QuietTactic
import Derived.Laws.Entries
import Derived.Laws.EntriesVeiled
namespace Go.Proofs.YtfljnhmpelpdaaaDoor
open Go.RowKit Go.Maps

theorem key_alloc {W : World} {B n : Nat} {D : DataW Unit} (h : W.ownsMap Tryd.prog 9 unitElem B n D) (o : Obj) : (W.alloc o).ownsMap Tryd.prog 9 unitElem B n D := h.alloc o

/-- may a byte stand in a word of Verilog -/
def verW (z : Int) : Bool := letB z || (!(decide (z < 48) || decide (57 < z)) || ((z == 95) || (z == 36)))
def keptB (s : ByteArray) : Bool := keptW.any fun x => x == s.data.toList
/-- a word of Verilog that is not kept -/
def verB (s : ByteArray) : Bool := ((s.data.toList.head?.map fun c => letB (c.toNat : Int) || ((c.toNat : Int) == 95)).getD false) && ((s.data.toList.all fun c => verW (c.toNat : Int)) && !keptB s)
theorem head_get (s : ByteArray) (h : 0 < s.size) : s.data.toList.head? = some s[0] := by
  rw [List.head?_eq_getElem?, List.getElem?_eq_getElem (by simpa using h)]
  rfl
theorem has_kept (s : ByteArray) : Maps.has (keptN 17) (Lit.string s.data.toList) = keptB s := by
  unfold keptN
  rw [has_setOf _ _ _ (fun x hx => by
    simp only [List.mem_map] at hx
    obtain ⟨y, _, rfl⟩ := hx
    trivial)]
  rw [show keptW.take 17 = keptW from rfl, List.any_map]
  rfl

theorem ver_ways (z : Int) (h : verW z = true) : letB z = true ∨ (letB z = false ∧ decide (z < 48) = false ∧ decide (57 < z) = false) ∨ (letB z = false ∧ z = 36) ∨ (letB z = false ∧ z = 95) := by
  unfold verW at h
  cases h1 : letB z
  · rw [h1] at h
    by_cases h2 : z = 36
    · exact .inr (.inr (.inl ⟨rfl, h2⟩))
    · by_cases h3 : z = 95
      · exact .inr (.inr (.inr ⟨rfl, h3⟩))
      · have e1 : (z == 36) = false := by simpa using h2
        have e2 : (z == 95) = false := by simpa using h3
        rw [e1, e2] at h
        refine .inr (.inl ⟨rfl, ?_⟩)
        cases h4 : decide (z < 48) <;> cases h5 : decide (57 < z) <;> simp_all
  · exact .inl rfl
theorem ver_bad (z : Int) (h : verW z = false) : letB z = false ∧ (z == 95) = false ∧ (z == 36) = false ∧ (z < 48 ∨ (¬ z < 48 ∧ 57 < z)) := by
  unfold verW at h
  cases h1 : letB z
  · rw [h1] at h
    cases h2 : (z == 95)
    · cases h3 : (z == 36)
      · rw [h2, h3] at h
        refine ⟨rfl, rfl, rfl, ?_⟩
        by_cases h4 : z < 48
        · exact .inl h4
        · right
          refine ⟨h4, ?_⟩
          rw [decide_eq_false h4] at h
          simpa using h
      · rw [h3] at h; simp at h
    · rw [h2] at h; simp at h
  · rw [h1] at h; simp at h

set_option maxRecDepth 100000 in
set_option maxHeartbeats 1000000 in
theorem ver_any (r : Value) (s : ByteArray) (w : World) (hs : 0 < s.size) (hs2 : s.size ≤ 40) (hr : r = .agg #[]) : Calls Tryd.prog 42 #[r, .string s] w fun e w' => e = .returned (.bool (verB s)) ∧ Below w.heap.size w w' := by
  subst hr
  obtain ⟨q, hq⟩ : ∃ q, verB s = q := ⟨_, rfl⟩
  rw [hq]
  have HQ := Lib.hid hq
  have hsl : (0 : Int) < (s.size : Int) := by omega
  have hix0 := get_run s 0 hs
  have hv0 : verB s = ((letB (s[0].toNat : Int) || ((s[0].toNat : Int) == 95)) && ((s.data.toList.all fun c => verW (c.toNat : Int)) && !keptB s)) := by
    unfold verB
    rw [head_get s hs]
    rfl
  have HV0 := Lib.hid hv0
  clear hq hv0
  simp only [Int.natCast_zero] at hix0
  have HG := Lib.hid fun k (h : k < s.size) => get_run s k h
  generalize hz0 : (s[0].toNat : Int) = z0 at hix0 HV0
  clear hz0
  by_cases hb0 : (letB z0 || (z0 == 95)) = false
  · have hqf : q = false := by rw [← HQ.out, HV0.out, hb0]; rfl
    subst hqf
    obtain ⟨hl, hu⟩ := Bool.or_eq_false_iff.1 hb0
    have HL := Lib.hid hl
    have hun : (z0 != 95) = true := by rw [bne, hu]; rfl
    clear hb0 hl HQ HV0
    go_enter Tryd.func42, Tryd.ntmps42
    go_wp2_with fail
    refine (letter_any z0 _).mono ?_
    rw [HL.out]
    rintro e w' ⟨rfl, rfl⟩
    go_wp2
    go_ret
    exact ⟨rfl, (Below.refl _ _).alloc (Nat.le_refl _) _⟩
  · have hbt : (letB z0 || (z0 == 95)) = true := by
      cases h : (letB z0 || (z0 == 95)) with
      | false => exact absurd h hb0
      | true => rfl
    have hqv : q = ((s.data.toList.all fun c => verW (c.toNat : Int)) && !keptB s) := by rw [← HQ.out, HV0.out, hbt]; rfl
    have HQV := Lib.hid hqv
    clear hb0 hqv HQ HV0
    have hrest : ∀ W : World, Below w.heap.size w W → True := fun _ _ => trivial
    clear hrest
    cases hl : letB z0
    · have hu : (z0 == 95) = true := by rw [hl] at hbt; exact hbt
      have hun : (z0 != 95) = false := by rw [bne, hu]; rfl
      have HL0 := Lib.hid hl
      clear hl hbt
      go_enter Tryd.func42, Tryd.ntmps42
      go_wp2_with fail
      refine (letter_any z0 _).mono ?_
      rw [HL0.out]
      rintro e w' ⟨rfl, rfl⟩
      go_wp2
      go_loopw [19] (fun i wr => ∃ k : Nat, k ≤ s.size ∧ i = .int .i64 (k : Int) ∧ wr = w.alloc (.cells #[] 74) ∧ Hid (∀ j, (hj : j < s.size) → j < k → verW (s[j].toNat : Int) = true)) (fun i _ => s.size - (intOf i).toNat)
      case atStart => exact ⟨0, Nat.zero_le _, rfl, rfl, Lib.hid fun j _ h => absurd h (by omega)⟩
      case round =>
        obtain ⟨k, hk, rfl, rfl, hall⟩ := hrel
        by_cases hlt : k < s.size
        · have hlt' : (k : Int) < (s.size : Int) := by omega
          have hix := HG.out k hlt
          cases hw : verW (s[k].toNat : Int)
          · have hqf : q = false := by
              rw [HQV.out, all_no (fun c => verW (c.toNat : Int)) s k hlt hw]
              rfl
            subst hqf
            generalize (s[k].toNat : Int) = z at hix hw
            obtain ⟨h1, h2, h3, h4⟩ := ver_bad z hw
            have HL := Lib.hid h1
            have n2 : (z != 95) = true := by rw [bne, h2]; rfl
            have n3 : (z != 36) = true := by rw [bne, h3]; rfl
            clear hall hw h1 HQV
            rcases h4 with h4 | ⟨h4, h5⟩
            · have h4' : decide (z < 48) = true := decide_eq_true h4
              go_wp2_with fail
              refine (letter_any z _).mono ?_
              rw [HL.out]
              rintro e w' ⟨rfl, rfl⟩
              go_wp2
              go_ret
              exact ⟨rfl, by first | exact Below.refl _ _ | exact (Below.refl _ _).alloc (Nat.le_refl _) _⟩
            · have h4' : decide (z < 48) = false := decide_eq_false h4
              go_wp2_with fail
              refine (letter_any z _).mono ?_
              rw [HL.out]
              rintro e w' ⟨rfl, rfl⟩
              go_wp2
              go_ret
              exact ⟨rfl, by first | exact Below.refl _ _ | exact (Below.refl _ _).alloc (Nat.le_refl _) _⟩
          · have hn : ∀ j, (hj : j < s.size) → j < k + 1 → verW (s[j].toNat : Int) = true := by
              intro j hj h
              by_cases hjk : j < k
              · exact hall.out j hj hjk
              · have : j = k := by omega
                subst this
                exact hw
            have HN := Lib.hid hn
            generalize (s[k].toNat : Int) = z at hix hw
            have hways := ver_ways z hw
            clear hn hall hw
            rcases hways with h1 | ⟨h1, h2, h3⟩ | ⟨h1, h2⟩ | ⟨h1, h2⟩
            · have HL := Lib.hid h1
              clear h1
              go_wp2_with fail
              refine (letter_any z _).mono ?_
              rw [HL.out]
              rintro e w' ⟨rfl, rfl⟩
              go_wp2
              refine ⟨⟨k + 1, by omega, by go_num, by first | rfl | trivial, HN⟩, ?_⟩
              simp [intOf]; omega
            · have HL := Lib.hid h1
              clear h1
              go_wp2_with fail
              refine (letter_any z _).mono ?_
              rw [HL.out]
              rintro e w' ⟨rfl, rfl⟩
              go_wp2
              refine ⟨⟨k + 1, by omega, by go_num, by first | rfl | trivial, HN⟩, ?_⟩
              simp [intOf]; omega
            · have HL := Lib.hid h1
              subst h2
              clear h1
              go_wp2_with fail
              refine (letter_any 36 _).mono ?_
              rw [HL.out]
              rintro e w' ⟨rfl, rfl⟩
              go_wp2
              refine ⟨⟨k + 1, by omega, by go_num, by first | rfl | trivial, HN⟩, ?_⟩
              simp [intOf]; omega
            · have HL := Lib.hid h1
              subst h2
              clear h1
              go_wp2_with fail
              refine (letter_any 95 _).mono ?_
              rw [HL.out]
              rintro e w' ⟨rfl, rfl⟩
              go_wp2
              refine ⟨⟨k + 1, by omega, by go_num, by first | rfl | trivial, HN⟩, ?_⟩
              simp [intOf]; omega
        · have hge : (s.size : Int) ≤ (k : Int) := by omega
          have hqf : q = !keptB s := by
            rw [HQV.out, all_yes (fun c => verW (c.toNat : Int)) s fun j hj => hall.out j hj (by omega)]
            rfl
          subst hqf
          have HK := Lib.hid (has_kept s)
          clear hall HQV
          go_wp2_with fail
          refine (kept_any _).mono ?_
          rintro e w1 ⟨rfl, hown, hb1⟩
          rw [World.size_alloc] at hown
          have HB := Lib.hid (((Below.refl w.heap.size w).alloc (Nat.le_refl _) (.cells #[] 74)).trans (hb1.mono (by simp)))
          have hkey := key9 s (by unfold maxLen; omega)
          clear hb1
          go_wp2_with (at_lookup; refine wpList_lookup_own_unit (H := Unit) _ rfl _ _ 51 rfl 9 53 law9 Tryd.underlying51 (zero53 _) _ 17 (keptN 17) rfl hown _ _ rfl hkey ?_; rw [HK.out])
          go_ret
          exact ⟨rfl, HB.out.alloc HB.out.size _⟩
    · have HL0 := Lib.hid hl
      clear hl hbt
      go_enter Tryd.func42, Tryd.ntmps42
      go_wp2_with fail
      refine (letter_any z0 _).mono ?_
      rw [HL0.out]
      rintro e w' ⟨rfl, rfl⟩
      go_wp2
      go_loopw [19] (fun i wr => ∃ k : Nat, k ≤ s.size ∧ i = .int .i64 (k : Int) ∧ wr = w.alloc (.cells #[] 74) ∧ Hid (∀ j, (hj : j < s.size) → j < k → verW (s[j].toNat : Int) = true)) (fun i _ => s.size - (intOf i).toNat)
      case atStart => exact ⟨0, Nat.zero_le _, rfl, rfl, Lib.hid fun j _ h => absurd h (by omega)⟩
      case round =>
        obtain ⟨k, hk, rfl, rfl, hall⟩ := hrel
        by_cases hlt : k < s.size
        · have hlt' : (k : Int) < (s.size : Int) := by omega
          have hix := HG.out k hlt
          cases hw : verW (s[k].toNat : Int)
          · have hqf : q = false := by
              rw [HQV.out, all_no (fun c => verW (c.toNat : Int)) s k hlt hw]
              rfl
            subst hqf
            generalize (s[k].toNat : Int) = z at hix hw
            obtain ⟨h1, h2, h3, h4⟩ := ver_bad z hw
            have HL := Lib.hid h1
            have n2 : (z != 95) = true := by rw [bne, h2]; rfl
            have n3 : (z != 36) = true := by rw [bne, h3]; rfl
            clear hall hw h1 HQV
            rcases h4 with h4 | ⟨h4, h5⟩
            · have h4' : decide (z < 48) = true := decide_eq_true h4
              go_wp2_with fail
              refine (letter_any z _).mono ?_
              rw [HL.out]
              rintro e w' ⟨rfl, rfl⟩
              go_wp2
              go_ret
              exact ⟨rfl, by first | exact Below.refl _ _ | exact (Below.refl _ _).alloc (Nat.le_refl _) _⟩
            · have h4' : decide (z < 48) = false := decide_eq_false h4
              go_wp2_with fail
              refine (letter_any z _).mono ?_
              rw [HL.out]
              rintro e w' ⟨rfl, rfl⟩
              go_wp2
              go_ret
              exact ⟨rfl, by first | exact Below.refl _ _ | exact (Below.refl _ _).alloc (Nat.le_refl _) _⟩
          · have hn : ∀ j, (hj : j < s.size) → j < k + 1 → verW (s[j].toNat : Int) = true := by
              intro j hj h
              by_cases hjk : j < k
              · exact hall.out j hj hjk
              · have : j = k := by omega
                subst this
                exact hw
            have HN := Lib.hid hn
            generalize (s[k].toNat : Int) = z at hix hw
            have hways := ver_ways z hw
            clear hn hall hw
            rcases hways with h1 | ⟨h1, h2, h3⟩ | ⟨h1, h2⟩ | ⟨h1, h2⟩
            · have HL := Lib.hid h1
              clear h1
              go_wp2_with fail
              refine (letter_any z _).mono ?_
              rw [HL.out]
              rintro e w' ⟨rfl, rfl⟩
              go_wp2
              refine ⟨⟨k + 1, by omega, by go_num, by first | rfl | trivial, HN⟩, ?_⟩
              simp [intOf]; omega
            · have HL := Lib.hid h1
              clear h1
              go_wp2_with fail
              refine (letter_any z _).mono ?_
              rw [HL.out]
              rintro e w' ⟨rfl, rfl⟩
              go_wp2
              refine ⟨⟨k + 1, by omega, by go_num, by first | rfl | trivial, HN⟩, ?_⟩
              simp [intOf]; omega
            · have HL := Lib.hid h1
              subst h2
              clear h1
              go_wp2_with fail
              refine (letter_any 36 _).mono ?_
              rw [HL.out]
              rintro e w' ⟨rfl, rfl⟩
              go_wp2
              refine ⟨⟨k + 1, by omega, by go_num, by first | rfl | trivial, HN⟩, ?_⟩
              simp [intOf]; omega
            · have HL := Lib.hid h1
              subst h2
              clear h1
              go_wp2_with fail
              refine (letter_any 95 _).mono ?_
              rw [HL.out]
              rintro e w' ⟨rfl, rfl⟩
              go_wp2
              refine ⟨⟨k + 1, by omega, by go_num, by first | rfl | trivial, HN⟩, ?_⟩
              simp [intOf]; omega
        · have hge : (s.size : Int) ≤ (k : Int) := by omega
          have hqf : q = !keptB s := by
            rw [HQV.out, all_yes (fun c => verW (c.toNat : Int)) s fun j hj => hall.out j hj (by omega)]
            rfl
          subst hqf
          have HK := Lib.hid (has_kept s)
          clear hall HQV
          go_wp2_with fail
          refine (kept_any _).mono ?_
          rintro e w1 ⟨rfl, hown, hb1⟩
          rw [World.size_alloc] at hown
          have HB := Lib.hid (((Below.refl w.heap.size w).alloc (Nat.le_refl _) (.cells #[] 74)).trans (hb1.mono (by simp)))
          have hkey := key9 s (by unfold maxLen; omega)
          clear hb1
          go_wp2_with (at_lookup; refine wpList_lookup_own_unit (H := Unit) _ rfl _ _ 51 rfl 9 53 law9 Tryd.underlying51 (zero53 _) _ 17 (keptN 17) rfl hown _ _ rfl hkey ?_; rw [HK.out])
          go_ret
          exact ⟨rfl, HB.out.alloc HB.out.size _⟩
end Go.Proofs.YtfljnhmpelpdaaaDoor
