/- The document's own word of a token, and fresh name. -/
import Derived.Test.YtfljnhmpelpdaaaDoorRef5
namespace Go.Proofs.YtfljnhmpelpdaaaDoor
open Go.RowKit

set_option maxRecDepth 100000 in
set_option maxHeartbeats 1000000 in
theorem rword_any (f : Int) (x : Ti) (w : World) (hs : x.t.size ≤ 100000) : Calls Tryd.prog 11 #[.int .i64 f, .agg #[.int .i64 x.k, .string x.t, .int .i64 x.p]] w (Two w (wordF f x)) := by
  obtain ⟨k, t, p⟩ := x
  simp only [] at hs ⊢
  have HSS := Lib.hid hs
  have HB := Lib.hid ((Below.refl w.heap.size w).alloc (Nat.le_refl _) (.cells #[.int .i64 k, .string t, .int .i64 p] 31))
  have hsz : w.heap.size ≤ (w.alloc (.cells #[.int .i64 k, .string t, .int .i64 p] 31)).heap.size := by simp
  by_cases hf : f = 4
  · have hfb : (f == 4) = true := by rw [beq_iff_eq]; exact hf
    have hfn : (f != 4) = false := by rw [bne, hfb]; rfl
    by_cases h0 : k = 0
    · have h0b : (k == 0) = true := by rw [beq_iff_eq]; exact h0
      have h0n : (k != 0) = false := by rw [bne, h0b]; rfl
      cases hl : legalB f t
      · have hr : wordF f ⟨k, t, p⟩ = (⟨#[]⟩, 4) := by unfold wordF; simp only [h0n, hfb, h0b, hl]; rfl
        rw [hr]
        have HL := Lib.hid hl
        clear hl hr h0 hf
        go_enter Tryd.func11, Tryd.ntmps11
        go_wp2_with fail
        refine (rlegal_any f t _ HSS.out).mono ?_
        rw [HL.out]
        rintro e w1 ⟨rfl, b1⟩
        have B1 := Lib.hid (HB.out.trans (b1.mono hsz))
        clear b1
        go_wp2
        go_ret2
        exact ⟨rfl, B1.out⟩
      · have hr : wordF f ⟨k, t, p⟩ = readF f t := by unfold wordF; simp only [h0n, hfb, h0b, hl]; rfl
        rw [hr]
        have HL := Lib.hid hl
        clear hl hr h0 hf
        go_enter Tryd.func11, Tryd.ntmps11
        go_wp2_with fail
        refine (rlegal_any f t _ HSS.out).mono ?_
        rw [HL.out]
        rintro e w1 ⟨rfl, b0⟩
        have B0 := Lib.hid (HB.out.trans (b0.mono hsz))
        have hc1 := b0.cell (p := ⟨w.heap.size, 1, none⟩) (by simp)
        simp at hc1
        clear b0
        go_wp2_with fail
        refine (rread_any f t _ HSS.out).mono ?_
        rintro e w2 ⟨rfl, b1⟩
        have B1 := Lib.hid (B0.out.trans (b1.mono B0.out.size))
        clear b1
        go_wp2
        go_ret2
        exact ⟨rfl, B1.out⟩
    · have h0b : (k == 0) = false := by rw [beq_eq_false_iff_ne]; exact h0
      have h0n : (k != 0) = true := by rw [bne, h0b]; rfl
      by_cases h2 : k = 2
      · have h2b : (k == 2) = true := by rw [beq_iff_eq]; exact h2
        have h2n : (k != 2) = false := by rw [bne, h2b]; rfl
        have hr : wordF f ⟨k, t, p⟩ = readF f t := by unfold wordF; simp only [h0n, hfb, h0b, h2b]; rfl
        rw [hr]
        clear hr h0 h2 hf
        go_enter Tryd.func11, Tryd.ntmps11
        go_wp2_with fail
        refine (rread_any f t _ HSS.out).mono ?_
        rintro e w1 ⟨rfl, b1⟩
        have B1 := Lib.hid (HB.out.trans (b1.mono hsz))
        clear b1
        go_wp2
        go_ret2
        exact ⟨rfl, B1.out⟩
      · have h2b : (k == 2) = false := by rw [beq_eq_false_iff_ne]; exact h2
        have h2n : (k != 2) = true := by rw [bne, h2b]; rfl
        have hr : wordF f ⟨k, t, p⟩ = (⟨#[]⟩, 4) := by unfold wordF; simp only [h0n, hfb, h0b, h2b]; rfl
        rw [hr]
        clear hr h0 h2 hf
        go_enter Tryd.func11, Tryd.ntmps11
        go_wp2
        go_ret2
        exact ⟨rfl, HB.out⟩
  · have hfb : (f == 4) = false := by rw [beq_eq_false_iff_ne]; exact hf
    have hfn : (f != 4) = true := by rw [bne, hfb]; rfl
    by_cases h0 : k = 0
    · have h0b : (k == 0) = true := by rw [beq_iff_eq]; exact h0
      have h0n : (k != 0) = false := by rw [bne, h0b]; rfl
      have hr : wordF f ⟨k, t, p⟩ = readF f t := by unfold wordF; simp only [h0n, hfb, h0b]; rfl
      rw [hr]
      clear hr h0 hf
      go_enter Tryd.func11, Tryd.ntmps11
      go_wp2_with fail
      refine (rread_any f t _ HSS.out).mono ?_
      rintro e w1 ⟨rfl, b1⟩
      have B1 := Lib.hid (HB.out.trans (b1.mono hsz))
      clear b1
      go_wp2
      go_ret2
      exact ⟨rfl, B1.out⟩
    · have h0b : (k == 0) = false := by rw [beq_eq_false_iff_ne]; exact h0
      have h0n : (k != 0) = true := by rw [bne, h0b]; rfl
      have hr : wordF f ⟨k, t, p⟩ = (⟨#[]⟩, 4) := by unfold wordF; simp only [h0n, hfb, h0b]; rfl
      rw [hr]
      by_cases h2 : k = 2
      · have h2n : (k != 2) = false := by rw [h2]; rfl
        clear hr h0 hf h2
        go_enter Tryd.func11, Tryd.ntmps11
        go_wp2
        go_ret2
        exact ⟨rfl, HB.out⟩
      · have h2n : (k != 2) = true := by rw [bne_iff_ne]; exact h2
        clear hr h0 hf h2
        go_enter Tryd.func11, Tryd.ntmps11
        go_wp2
        go_ret2
        exact ⟨rfl, HB.out⟩

set_option maxRecDepth 100000 in
set_option maxHeartbeats 1000000 in
theorem rfresh_any (used : List ByteArray) (v : Value) (stem : ByteArray) (w : World) (hu : used.length ≤ 60) (hs : stem.size ≤ 100000) (ht : Lst stc w v used) :
    Calls Tryd.prog 12 #[v, .string stem] w fun e w' => ∃ r, e = .returned (.string r) ∧ IsFresh used stem r ∧ Below w.heap.size w w' := by
  have HT := Lib.hid ht
  obtain ⟨b, c, rfl⟩ := ht.slice
  clear ht
  have hs' : (stem.size : Int) ≤ 100000 := by omega
  have HU := Lib.hid hu
  go_enter Tryd.func12, Tryd.ntmps12
  go_wp2
  go_loopw [5] (fun i wr => ∃ k : Nat, 1 ≤ k ∧ k ≤ used.length + 1 ∧ i = .int .i64 (k : Int) ∧ Below w.heap.size w wr ∧ Hid (∀ j, 1 ≤ j → j < k → numS stem j ∈ used)) (fun i _ => used.length + 1 - (intOf i).toNat)
  case atStart => exact ⟨1, by omega, by omega, rfl, Below.refl _ _, Lib.hid fun j h1 h2 => absurd h1 (by omega)⟩
  case round =>
    obtain ⟨k, hk1, hk2, rfl, hB, hall⟩ := hrel
    have HB := Lib.hid hB
    clear hB
    by_cases hlt : k ≤ used.length
    · have hlt' : (k : Int) ≤ (used.length : Int) := by omega
      go_wp2_with fail
      refine (rput_yes k _ (by omega)).mono ?_
      rintro e w1 ⟨rfl, b1⟩
      have B1 := Lib.hid (HB.out.trans (b1.mono HB.out.size))
      clear b1
      have hd := dec_size k (by omega)
      have hd' : ((dec k).size : Int) ≤ 2 := by omega
      rw [show (⟨(Lib.decDigits k).toArray⟩ : ByteArray) = dec k from rfl]
      have HNS := Lib.hid (show numS stem k = stem ++ dec k from rfl)
      generalize dec k = d at hd' HNS hd
      clear hd
      go_wp2_with fail
      refine (has_any used _ (stem ++ d) _ (by omega) (HT.out.below B1.out)).mono ?_
      cases hus : usedB used (stem ++ d)
      · rintro e w' ⟨rfl, rfl⟩
        have hni : IsFresh used stem (stem ++ d) := ⟨k, hk1, hk2, HNS.out.symm, (fun h => by rw [(usedB_iff used (stem ++ d)).2 h] at hus; cases hus), hall.out⟩
        have HNI := Lib.hid hni
        clear hni hus hall
        go_wp2
        go_ret
        exact ⟨_, rfl, HNI.out, B1.out⟩
      · rintro e w' ⟨rfl, rfl⟩
        have hn : ∀ j, 1 ≤ j → j < k + 1 → numS stem j ∈ used := by
          intro j h1 h2
          by_cases hjk : j < k
          · exact hall.out j h1 hjk
          · have : j = k := by omega
            subst this
            rw [HNS.out]
            exact (usedB_iff used (stem ++ d)).1 hus
        have HN := Lib.hid hn
        clear hn hus hall
        go_wp2
        refine ⟨⟨k + 1, by omega, by omega, by go_num, B1.out, HN⟩, ?_⟩
        simp [intOf]; omega
    · have hkl : k = used.length + 1 := by omega
      have hge : ¬ (k : Int) ≤ (used.length : Int) := by omega
      have hfr : IsFresh used stem (numS stem (used.length + 1)) := ⟨used.length + 1, by omega, by omega, rfl, fun h => by
        have := nums_bound used stem (used.length + 1) HU.out fun y hy => by
          unfold nums at hy
          obtain ⟨i, hi, rfl⟩ := List.mem_map.1 hy
          have hi := List.mem_range.1 hi
          by_cases hil : i = used.length
          · rw [hil]; exact h
          · exact hall.out (i + 1) (by omega) (by omega)
        omega, fun j h1 h2 => hall.out j h1 (by omega)⟩
      have HFR := Lib.hid hfr
      clear hfr hall hkl
      go_wp2_with fail
      rw [show ((used.length : Int) + 1) = ((used.length + 1 : Nat) : Int) from by omega]
      refine (rput_yes (used.length + 1) _ (by omega)).mono ?_
      rintro e w1 ⟨rfl, b1⟩
      have B1 := Lib.hid (HB.out.trans (b1.mono HB.out.size))
      clear b1
      have hd := dec_size (used.length + 1) (by omega)
      have hd' : ((dec (used.length + 1)).size : Int) ≤ 2 := by omega
      rw [show (⟨(Lib.decDigits (used.length + 1)).toArray⟩ : ByteArray) = dec (used.length + 1) from rfl]
      have HNS := Lib.hid (show numS stem (used.length + 1) = stem ++ dec (used.length + 1) from rfl)
      generalize dec (used.length + 1) = d at hd' HNS hd
      clear hd
      go_wp2
      go_ret
      exact ⟨_, rfl, by rw [← HNS.out]; exact HFR.out, B1.out⟩
theorem fresh_one (used : List ByteArray) (stem a b : ByteArray) (ha : IsFresh used stem a) (hb : IsFresh used stem b) : a = b := by
  obtain ⟨k, k1, _, rfl, k4, k5⟩ := ha
  obtain ⟨m, m1, _, rfl, m4, m5⟩ := hb
  rcases Nat.lt_trichotomy k m with h | h | h
  · exact absurd (m5 k k1 h) k4
  · rw [h]
  · exact absurd (k5 m m1 h) m4
end Go.Proofs.YtfljnhmpelpdaaaDoor
