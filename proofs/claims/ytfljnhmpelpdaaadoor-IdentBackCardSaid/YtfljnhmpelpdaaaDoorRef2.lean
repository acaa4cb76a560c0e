/- The document's own function of what a format takes as it stands. -/
import Derived.Test.YtfljnhmpelpdaaaDoorRef1
namespace Go.Proofs.YtfljnhmpelpdaaaDoor
open Go.RowKit

theorem dot_is (s : ByteArray) (h : 0 < s.size) : Lib.hasPrefix s.data.toList [46] = ((s[0].toNat : Int) == 46) := by
  have h1 := head_get s h
  obtain ⟨c, l, hc⟩ : ∃ c l, s.data.toList = c :: l := by
    cases hl : s.data.toList with
    | nil => rw [hl] at h1; cases h1
    | cons c l => exact ⟨c, l, rfl⟩
  rw [hc] at h1 ⊢
  simp only [List.head?_cons, Option.some.injEq] at h1
  rw [← h1]
  have := all256 (fun c => decide (Lib.hasPrefix [c] [46] = ((c.toNat : Int) == 46))) (by decide +kernel) c
  have h2 : Lib.hasPrefix (c :: l) [46] = Lib.hasPrefix [c] [46] := rfl
  rw [h2]
  exact of_decide_eq_true this
/-- the words kept -/
def keptT : List ByteArray := keptW.map fun x => ⟨x.toArray⟩
theorem kept_used (s : ByteArray) : usedB keptT s = keptB s := by
  unfold usedB keptB keptT
  rw [List.any_map]
  rfl
theorem rkept (B : Nat) (w : World) (s : ByteArray) (h : Blk w B #[.string ⟨#[109, 111, 100, 117, 108, 101]⟩, .string ⟨#[101, 110, 100, 109, 111, 100, 117, 108, 101]⟩, .string ⟨#[105, 110, 112, 117, 116]⟩, .string ⟨#[111, 117, 116, 112, 117, 116]⟩, .string ⟨#[119, 105, 114, 101]⟩, .string ⟨#[97, 115, 115, 105, 103, 110]⟩, .string ⟨#[98, 117, 102]⟩, .string ⟨#[110, 111, 116]⟩, .string ⟨#[97, 110, 100]⟩, .string ⟨#[110, 97, 110, 100]⟩, .string ⟨#[111, 114]⟩, .string ⟨#[110, 111, 114]⟩, .string ⟨#[120, 111, 114]⟩, .string ⟨#[120, 110, 111, 114]⟩, .string ⟨#[100, 102, 102, 48]⟩, .string ⟨#[100, 102, 102, 49]⟩, .string ⟨#[100, 102, 102, 120]⟩] 9) : Calls Tryd.prog 21 #[.slice (some ⟨B, 0, none⟩) 17 17, .string s] w fun e w' => e = .returned (.bool (keptB s)) ∧ w = w' := by
  refine (has_any keptT _ s w (by decide) (Lst.blk (t := 9) h rfl)).mono ?_
  rw [kept_used]
  exact fun e w' h => h

theorem rlegal0 (s : ByteArray) (w : World) (hss : s.size ≤ 100000) (hn : nameB s = true) : Calls Tryd.prog 25 #[.int .i64 0, .string s] w fun e w' => e = .returned (.bool true) ∧ Below w.heap.size w w' := by
  have HN := Lib.hid hn
  have HSS := Lib.hid hss
  clear hn
  go_enter Tryd.func25, Tryd.ntmps25
  go_wp2_with fail
  refine (rname_any s _ HSS.out).mono ?_
  rw [HN.out]
  rintro e w' ⟨rfl, rfl⟩
  go_wp2
  go_ret
  exact ⟨rfl, Below.refl _ _⟩
theorem rlegal1 (s : ByteArray) (w : World) (hss : s.size ≤ 100000) (hn : nameB s = true) : Calls Tryd.prog 25 #[.int .i64 1, .string s] w fun e w' => e = .returned (.bool true) ∧ Below w.heap.size w w' := by
  have HN := Lib.hid hn
  have HSS := Lib.hid hss
  clear hn
  go_enter Tryd.func25, Tryd.ntmps25
  go_wp2_with fail
  refine (rname_any s _ HSS.out).mono ?_
  rw [HN.out]
  rintro e w' ⟨rfl, rfl⟩
  go_wp2
  go_ret
  exact ⟨rfl, Below.refl _ _⟩

theorem rlegal2 (s : ByteArray) (w : World) (hss : s.size ≤ 100000) (hn : nameB s = true) : Calls Tryd.prog 25 #[.int .i64 2, .string s] w fun e w' => e = .returned (.bool (blifB s)) ∧ Below w.heap.size w w' := by
  have hsz := name_size s hn
  have HN := Lib.hid hn
  have HSS := Lib.hid hss
  clear hn
  have hb : blifB s = (!((s[0].toNat : Int) == 46) && !anyIn s [35, 92]) := by unfold blifB; rw [dot_is s hsz.1]
  rw [hb]
  have hix := get_run s 0 hsz.1
  have hix0 : ((0 : Nat) : Int) = 0 := rfl
  rw [hix0] at hix
  generalize (s[0].toNat : Int) = z at hix
  clear hix0 hb
  cases h46 : (z == 46)
  · have hne : (z != 46) = true := by rw [bne, h46]; rfl
    go_enter Tryd.func25, Tryd.ntmps25
    go_wp2_with fail
    refine (rname_any s _ HSS.out).mono ?_
    rw [HN.out]
    rintro e w' ⟨rfl, rfl⟩
    go_wp2_with fail
    refine (without_any s ⟨#[35, 92]⟩ _ HSS.out (by decide)).mono ?_
    rintro e w1 ⟨rfl, b1⟩
    rw [show anyIn s (ByteArray.data ⟨#[35, 92]⟩).toList = anyIn s [35, 92] from rfl]
    have B1 := Lib.hid b1
    clear b1
    go_wp2
    go_ret
    exact ⟨rfl, B1.out⟩
  · have hne : (z != 46) = false := by rw [bne, h46]; rfl
    go_enter Tryd.func25, Tryd.ntmps25
    go_wp2_with fail
    refine (rname_any s _ HSS.out).mono ?_
    rw [HN.out]
    rintro e w' ⟨rfl, rfl⟩
    go_wp2
    go_ret
    exact ⟨rfl, Below.refl _ _⟩
theorem rlegal3 (s : ByteArray) (w : World) (hss : s.size ≤ 100000) (hn : nameB s = true) : Calls Tryd.prog 25 #[.int .i64 3, .string s] w fun e w' => e = .returned (.bool (benchB s)) ∧ Below w.heap.size w w' := by
  have HN := Lib.hid hn
  have HSS := Lib.hid hss
  clear hn
  unfold benchB
  go_enter Tryd.func25, Tryd.ntmps25
  go_wp2_with fail
  refine (rname_any s _ HSS.out).mono ?_
  rw [HN.out]
  rintro e w' ⟨rfl, rfl⟩
  go_wp2_with fail
  refine (without_any s ⟨#[61, 40, 41, 44, 35]⟩ _ HSS.out (by decide)).mono ?_
  rintro e w1 ⟨rfl, b1⟩
  rw [show anyIn s (ByteArray.data ⟨#[61, 40, 41, 44, 35]⟩).toList = anyIn s [61, 40, 41, 44, 35] from rfl]
  have B1 := Lib.hid b1
  clear b1
  go_wp2
  go_ret
  exact ⟨rfl, B1.out⟩

/-- may the byte stand there -/
def okAt (k : Nat) (z : Int) : Bool := (letB z || (z == 95)) || ((k != 0) && (digB z || (z == 36)))
theorem ver_of_dig (z : Int) : verW z = ((letB z || (z == 95)) || (digB z || (z == 36))) := by
  unfold verW digB
  cases letB z <;> cases (z == 95) <;> cases (z == 36) <;> by_cases h1 : z < 48 <;> by_cases h2 : 57 < z <;> simp [h1, h2] <;> omega
theorem ver_no (s : ByteArray) (k : Nat) (h : k < s.size) (hk : okAt k (s[k].toNat : Int) = false) : verB s = false := by
  unfold okAt at hk
  rw [Bool.or_eq_false_iff] at hk
  obtain ⟨h1, h2⟩ := hk
  unfold verB
  by_cases h0 : k = 0
  · subst h0
    rw [head_get s h, Option.map_some, Option.getD_some, h1]
    rfl
  · have h3 : (k != 0) = true := by simpa using h0
    rw [h3, Bool.true_and] at h2
    rw [all_no (fun c => verW (c.toNat : Int)) s k h (by show verW _ = false; rw [ver_of_dig, h1, h2]; rfl)]
    simp
theorem ver_is (s : ByteArray) (h0 : 0 < s.size) (h : ∀ j, (hj : j < s.size) → okAt j (s[j].toNat : Int) = true) : verB s = !keptB s := by
  unfold verB
  have h1 := h 0 h0
  have h2 : (letB (s[0].toNat : Int) || ((s[0].toNat : Int) == 95)) = true := by
    unfold okAt at h1
    simpa using h1
  rw [head_get s h0, Option.map_some, Option.getD_some, h2, all_yes (fun c => verW (c.toNat : Int)) s fun j hj => by
    show verW _ = true
    rw [ver_of_dig]
    have := h j hj
    unfold okAt at this
    revert this
    cases (letB (s[j].toNat : Int) || ((s[j].toNat : Int) == 95)) <;> cases (digB (s[j].toNat : Int) || ((s[j].toNat : Int) == 36)) <;> simp]
  rfl

set_option maxRecDepth 100000 in
set_option maxHeartbeats 2000000 in
theorem rlegal4 (s : ByteArray) (w : World) (hss : s.size ≤ 100000) (hn : nameB s = true) : Calls Tryd.prog 25 #[.int .i64 4, .string s] w fun e w' => e = .returned (.bool (verB s)) ∧ Below w.heap.size w w' := by
  have hsz := name_size s hn
  have HN := Lib.hid hn
  have HSS := Lib.hid hss
  clear hn
  obtain ⟨q, hq⟩ : ∃ q, verB s = q := ⟨_, rfl⟩
  rw [hq]
  have HQ := Lib.hid hq
  clear hq
  go_enter Tryd.func25, Tryd.ntmps25
  go_wp2_with fail
  refine (rname_any s _ HSS.out).mono ?_
  rw [HN.out]
  rintro e w' ⟨rfl, rfl⟩
  go_wp2
  go_loop [5] (fun i => ∃ k : Nat, k ≤ s.size ∧ i = .int .i64 (k : Int) ∧ Hid (∀ j, (hj : j < s.size) → j < k → okAt j (s[j].toNat : Int) = true)) (fun i => s.size - (intOf i).toNat)
  case atStart => exact ⟨0, Nat.zero_le _, rfl, Lib.hid fun j _ h => absurd h (by omega)⟩
  case round =>
    obtain ⟨k, hk, rfl, hall⟩ := hrel
    by_cases hlt : k < s.size
    · have hlt' : (k : Int) < (s.size : Int) := by omega
      have hix := get_run s k hlt
      obtain ⟨z, hz⟩ : ∃ z, (s[k].toNat : Int) = z := ⟨_, rfl⟩
      rw [hz] at hix
      have HZ := Lib.hid hz
      have hl := rlet_any z
      have hd := rdig_any z
      have hk0 : ((k : Int) == 0) = (k == 0) := by cases h : (k == 0) <;> simp at h ⊢ <;> omega
      have hok : okAt k z = ((letB z || (z == 95)) || ((k != 0) && (digB z || (z == 36)))) := rfl
      have hnx : okAt k z = true → Hid (∀ j, (hj : j < s.size) → j < k + 1 → okAt j (s[j].toNat : Int) = true) := fun ho => Lib.hid fun j hj h => by
        by_cases hjk : j < k
        · exact hall.out j hj hjk
        · have : j = k := by omega
          subst this
          rw [HZ.out]; exact ho
      have hno : okAt k z = false → q = false := fun ho => by rw [← HQ.out]; exact ver_no s k hlt (by rw [HZ.out]; exact ho)
      have HNX := Lib.hid hnx
      have HNO := Lib.hid hno
      have HOK := Lib.hid hok
      have HL := Lib.hid hl
      have HD := Lib.hid hd
      have K0 := Lib.hid hk0
      clear hz hl hd hok hnx hno hk0
      obtain ⟨b1, hb1⟩ : ∃ b, (letB z || (z == 95)) = b := ⟨_, rfl⟩
      have HB1 := Lib.hid hb1
      clear hb1
      cases b1
      · by_cases h0 : k = 0
        · have hqf : q = false := HNO.out (by rw [HOK.out, HB1.out]; simp [h0])
          have hk0 : ((k : Int) == 0) = true := by rw [h0]; rfl
          subst hqf
          clear hall h0
          go_wp2_with fail
          refine (HL.out _).mono ?_
          rw [HB1.out]
          rintro e w' ⟨rfl, rfl⟩
          go_wp2
          go_ret
          exact ⟨rfl, Below.refl _ _⟩
        · have hk0 : ((k : Int) == 0) = false := by rw [beq_eq_false_iff_ne]; omega
          obtain ⟨b2, hb2⟩ : ∃ b, digB z = b := ⟨_, rfl⟩
          have HB2 := Lib.hid hb2
          clear hb2
          have hkn : (k != 0) = true := by simpa using h0
          have HKN := Lib.hid hkn
          clear hkn h0
          cases b2
          · cases h36 : (z == 36)
            · have hqf : q = false := HNO.out (by rw [HOK.out, HB1.out, HB2.out, h36]; simp)
              have h36n : (z != 36) = true := by rw [bne, h36]; rfl
              subst hqf
              clear hall
              go_wp2_with fail
              refine (HL.out _).mono ?_
              rw [HB1.out]
              rintro e w' ⟨rfl, rfl⟩
              go_wp2_with fail
              refine (HD.out _).mono ?_
              rw [HB2.out]
              rintro e w' ⟨rfl, rfl⟩
              go_wp2
              go_ret
              exact ⟨rfl, Below.refl _ _⟩
            · have HX := Lib.hid (HNX.out (by rw [HOK.out, HKN.out, h36]; simp))
              have h36n : (z != 36) = false := by rw [bne, h36]; rfl
              clear hall
              go_wp2_with fail
              refine (HL.out _).mono ?_
              rw [HB1.out]
              rintro e w' ⟨rfl, rfl⟩
              go_wp2_with fail
              refine (HD.out _).mono ?_
              rw [HB2.out]
              rintro e w' ⟨rfl, rfl⟩
              go_wp2
              refine ⟨⟨k + 1, by omega, by go_num, HX.out⟩, ?_⟩
              simp [intOf]; omega
          · have HX := Lib.hid (HNX.out (by rw [HOK.out, HKN.out, HB2.out]; simp))
            clear hall
            go_wp2_with fail
            refine (HL.out _).mono ?_
            rw [HB1.out]
            rintro e w' ⟨rfl, rfl⟩
            go_wp2_with fail
            refine (HD.out _).mono ?_
            rw [HB2.out]
            rintro e w' ⟨rfl, rfl⟩
            go_wp2
            refine ⟨⟨k + 1, by omega, by go_num, HX.out⟩, ?_⟩
            simp [intOf]; omega
      · have HX := Lib.hid (HNX.out (by rw [HOK.out, HB1.out]; rfl))
        clear hall
        go_wp2_with fail
        refine (HL.out _).mono ?_
        rw [HB1.out]
        rintro e w' ⟨rfl, rfl⟩
        go_wp2
        refine ⟨⟨k + 1, by omega, by go_num, HX.out⟩, ?_⟩
        simp [intOf]; omega
    · have hge : (s.size : Int) ≤ (k : Int) := by omega
      have hqv : q = !keptB s := by rw [← HQ.out]; exact ver_is s hsz.1 fun j hj => hall.out j hj (by omega)
      subst hqv
      have hbk := Blk.new w #[.string ⟨#[109, 111, 100, 117, 108, 101]⟩, .string ⟨#[101, 110, 100, 109, 111, 100, 117, 108, 101]⟩, .string ⟨#[105, 110, 112, 117, 116]⟩, .string ⟨#[111, 117, 116, 112, 117, 116]⟩, .string ⟨#[119, 105, 114, 101]⟩, .string ⟨#[97, 115, 115, 105, 103, 110]⟩, .string ⟨#[98, 117, 102]⟩, .string ⟨#[110, 111, 116]⟩, .string ⟨#[97, 110, 100]⟩, .string ⟨#[110, 97, 110, 100]⟩, .string ⟨#[111, 114]⟩, .string ⟨#[110, 111, 114]⟩, .string ⟨#[120, 111, 114]⟩, .string ⟨#[120, 110, 111, 114]⟩, .string ⟨#[100, 102, 102, 48]⟩, .string ⟨#[100, 102, 102, 49]⟩, .string ⟨#[100, 102, 102, 120]⟩] 9
      have HBK := Lib.hid hbk
      clear hall HQ hbk
      go_wp2_with fail
      refine (rkept _ _ s HBK.out).mono ?_
      rintro e w' ⟨rfl, rfl⟩
      go_wp2
      go_ret
      exact ⟨rfl, (Below.refl _ _).alloc (Nat.le_refl _) _⟩

set_option maxHeartbeats 1000000 in
theorem rlegal_any (f : Int) (s : ByteArray) (w : World) (hss : s.size ≤ 100000) : Calls Tryd.prog 25 #[.int .i64 f, .string s] w fun e w' => e = .returned (.bool (legalB f s)) ∧ Below w.heap.size w w' := by
  cases hn : nameB s
  · have hr : legalB f s = false := by unfold legalB; rw [hn]; simp
    rw [hr]
    have HN := Lib.hid hn
    have HSS := Lib.hid hss
    clear hn hr
    go_enter Tryd.func25, Tryd.ntmps25
    go_wp2_with fail
    refine (rname_any s _ HSS.out).mono ?_
    rw [HN.out]
    rintro e w' ⟨rfl, rfl⟩
    go_wp2
    go_ret
    exact ⟨rfl, Below.refl _ _⟩
  · by_cases h0 : f = 0
    · subst h0
      rw [show legalB 0 s = true from by unfold legalB lawB; rw [hn]; rfl]
      exact rlegal0 s w hss hn
    · by_cases h1 : f = 1
      · subst h1
        rw [show legalB 1 s = true from by unfold legalB lawB; rw [hn]; rfl]
        exact rlegal1 s w hss hn
      · by_cases h2 : f = 2
        · subst h2
          rw [show legalB 2 s = blifB s from by unfold legalB lawB; rw [hn]; rfl]
          exact rlegal2 s w hss hn
        · by_cases h3 : f = 3
          · subst h3
            rw [show legalB 3 s = benchB s from by unfold legalB lawB; rw [hn]; rfl]
            exact rlegal3 s w hss hn
          · by_cases h4 : f = 4
            · subst h4
              rw [show legalB 4 s = verB s from by unfold legalB lawB; rw [hn]; rfl]
              exact rlegal4 s w hss hn
            · have hr : legalB f s = false := by
                unfold legalB fmtB
                by_cases h : 0 ≤ f
                · rw [decide_eq_false (show ¬ f ≤ 4 by omega)]; simp
                · rw [decide_eq_false h]; rfl
              rw [hr]
              have e0 : (f == 0) = false := by rw [beq_eq_false_iff_ne]; exact h0
              have e1 : (f == 1) = false := by rw [beq_eq_false_iff_ne]; exact h1
              have e2 : (f == 2) = false := by rw [beq_eq_false_iff_ne]; exact h2
              have e3 : (f == 3) = false := by rw [beq_eq_false_iff_ne]; exact h3
              have e4 : (f == 4) = false := by rw [beq_eq_false_iff_ne]; exact h4
              have HN := Lib.hid hn
              have HSS := Lib.hid hss
              clear hn hr h0 h1 h2 h3 h4
              go_enter Tryd.func25, Tryd.ntmps25
              go_wp2_with fail
              refine (rname_any s _ HSS.out).mono ?_
              rw [HN.out]
              rintro e w' ⟨rfl, rfl⟩
              go_wp2
              go_ret
              exact ⟨rfl, Below.refl _ _⟩
end Go.Proofs.YtfljnhmpelpdaaaDoor
