/- IdentOnly: two names are spelled alike only if they are the same. -/
import Derived.Test.YtfljnhmpelpdaaaDoorWorks
namespace Go.Proofs.YtfljnhmpelpdaaaDoor
open Go.RowKit

theorem ix_hd (n : Nat) (h : n < 16) : ix (hd n) = (n : Int) := by
  have := (by decide +kernel : ∀ i : Fin 16, ix (hd i.val) = (i.val : Int)) ⟨n, h⟩
  exact this
theorem unhex_hex : ∀ l : List UInt8, unhexF (hexL l) = some l
  | [] => rfl
  | c :: l => by
    have hc := c.toNat_lt
    have h1 := ix_hd (c.toNat / 16) (by omega)
    have h2 := ix_hd (c.toNat % 16) (by omega)
    show unhexF (hd (c.toNat / 16) :: hd (c.toNat % 16) :: hexL l) = _
    rw [unhexF, h1, h2, if_neg (by omega), unhex_hex l]
    simp only [Int.toNat_natCast, Option.map_some, Option.some.injEq, List.cons.injEq, and_true]
    rw [show 16 * (c.toNat / 16) + c.toNat % 16 = c.toNat from by omega]
    simp
theorem hex_inj (a b : List UInt8) (h : hexL a = hexL b) : a = b := by
  have h1 := unhex_hex a
  rw [h, unhex_hex b] at h1
  exact (Option.some.inj h1).symm
theorem tl_eq (x y : ByteArray) : (x.toList == y.toList) = (x.data.toList == y.data.toList) := by
  rw [ByteArray.toList_eq, ByteArray.toList_eq]
theorem tl_self (x : ByteArray) : (x.toList == x.toList) = true := by simp
theorem tl_ne (x y : ByteArray) (h : x ≠ y) : (x.toList == y.toList) = false := by
  rw [tl_eq, beq_eq_false_iff_ne]
  exact fun e => h (bytes_inj _ _ e)

theorem spell_bad (f : Int) (s : ByteArray) (h : (spellF f s).2 ≠ 0) : (spellF f s).1 = ⟨#[]⟩ := by
  unfold spellF at h ⊢
  split
  · rfl
  · split
    · rfl
    · exfalso
      rename_i h1 h2
      rw [if_neg h1, if_neg h2] at h
      split at h
      · split at h <;> exact h rfl
      · split at h <;> exact h rfl
theorem spell_size (f : Int) (s : ByteArray) : (spellF f s).1.size ≤ 2 * s.size + 3 := by
  have e0 : ByteArray.size ⟨#[]⟩ = 0 := rfl
  have e1 : ByteArray.size ⟨#[92]⟩ = 1 := rfl
  have e2 : ByteArray.size ⟨#[32]⟩ = 1 := rfl
  have e3 : ByteArray.size ⟨#[120, 95, 95]⟩ = 3 := rfl
  have e4 : ByteArray.size ⟨(hexL s.data.toList).toArray⟩ = 2 * s.size := by
    show (hexL s.data.toList).toArray.size = _
    simp [hexL_len]
  unfold spellF
  split
  · show ByteArray.size ⟨#[]⟩ ≤ _; omega
  · split
    · show ByteArray.size ⟨#[]⟩ ≤ _; omega
    · split
      · split
        · show s.size ≤ _; omega
        · rename_i h _ _ _
          simp only [ByteArray.size_append]
          have : 1 ≤ s.size := by
            have := name_size s (by simpa using h)
            omega
          omega
      · split
        · simp only [ByteArray.size_append]
          omega
        · show s.size ≤ _; omega
theorem mark_app (t : ByteArray) : mark3 (⟨#[120, 95, 95]⟩ ++ t) = true := by
  unfold mark3 Lib.hasPrefix
  rw [List.isPrefixOf_iff_prefix, ByteArray.data_append, Array.toList_append]
  exact List.prefix_append _ _
theorem ver_head (s t : ByteArray) (h : verB s = true) : s ≠ ⟨#[92]⟩ ++ t := by
  rintro rfl
  unfold verB at h
  simp only [Bool.and_eq_true] at h
  have h1 := List.all_eq_true.1 h.2.1 92 (by rw [ByteArray.data_append, Array.toList_append]; simp)
  revert h1
  decide
theorem app_cancel (a b c : ByteArray) (h : a ++ b = a ++ c) : b = c := by
  have := congrArg (fun x : ByteArray => x.data.toList) h
  simp only [ByteArray.data_append, Array.toList_append] at this
  exact bytes_inj _ _ (List.append_cancel_left this)
theorem app_cancelR (a b c : ByteArray) (h : b ++ a = c ++ a) : b = c := by
  have := congrArg (fun x : ByteArray => x.data.toList) h
  simp only [ByteArray.data_append, Array.toList_append] at this
  exact bytes_inj _ _ (List.append_cancel_right this)
theorem hexB_inj (a b : ByteArray) (h : (⟨(hexL a.data.toList).toArray⟩ : ByteArray) = ⟨(hexL b.data.toList).toArray⟩) : a = b := by
  have := congrArg (fun x : ByteArray => x.data.toList) h
  simp only at this
  exact bytes_inj _ _ (hex_inj _ _ this)
/-- the forms of a spelling -/
theorem spell_forms (f : Int) (s : ByteArray) (h : (spellF f s).2 = 0) : nameB s = true ∧ fmtB f = true ∧
    ((f ≠ 4 ∧ (spellF f s).1 = s ∧ (hexedB f = true → mark3 s = false ∧ legalB f s = true)) ∨ (hexedB f = true ∧ f ≠ 4 ∧ (spellF f s).1 = ⟨#[120, 95, 95]⟩ ++ ⟨(hexL s.data.toList).toArray⟩ ∧ (legalB f s = false ∨ mark3 s = true)) ∨
      (f = 4 ∧ (spellF f s).1 = s ∧ legalB f s = true) ∨ (f = 4 ∧ (spellF f s).1 = ⟨#[92]⟩ ++ s ++ ⟨#[32]⟩ ∧ legalB f s = false)) := by
  unfold spellF at h ⊢
  cases hn : nameB s
  · rw [hn] at h; simp at h
  · cases hf : fmtB f
    · rw [hn, hf] at h; simp at h
    · refine ⟨rfl, rfl, ?_⟩
      simp only [Bool.true_eq_false, if_false]
      by_cases h4 : f = 4
      · rw [if_pos h4]
        cases hl : legalB f s
        · exact .inr (.inr (.inr ⟨h4, by simp, rfl⟩))
        · exact .inr (.inr (.inl ⟨h4, by simp, rfl⟩))
      · rw [if_neg h4]
        cases hx : hexedB f
        · exact .inl ⟨h4, by simp, fun h => by cases h⟩
        · cases hl : legalB f s
          · exact .inr (.inl ⟨rfl, h4, by simp, .inl rfl⟩)
          · cases hm : mark3 s
            · exact .inl ⟨h4, by simp, fun _ => ⟨rfl, rfl⟩⟩
            · exact .inr (.inl ⟨rfl, h4, by simp, .inr rfl⟩)
theorem legal_ver (s : ByteArray) (h : legalB 4 s = true) : verB s = true := by
  unfold legalB at h
  simp only [Bool.and_eq_true] at h
  exact h.2.2
theorem spell_inj (f : Int) (a b : ByteArray) (ha : (spellF f a).2 = 0) (hb : (spellF f b).2 = 0) (h : (spellF f a).1 = (spellF f b).1) : a = b := by
  obtain ⟨_, _, fa⟩ := spell_forms f a ha
  obtain ⟨_, _, fb⟩ := spell_forms f b hb
  rcases fa with ⟨n4, ea, ma⟩ | ⟨xa, n4, ea, ma⟩ | ⟨f4, ea, la⟩ | ⟨f4, ea, la⟩ <;> rcases fb with ⟨n4', eb, mb⟩ | ⟨xb, n4', eb, mb⟩ | ⟨f4', eb, lb⟩ | ⟨f4', eb, lb⟩ <;> first | exact absurd f4 n4' | exact absurd f4' n4 | skip
  · rw [ea, eb] at h; exact h
  · rw [ea, eb] at h
    have := (ma xb).1
    rw [h, mark_app] at this
    cases this
  · rw [ea, eb] at h
    have := (mb xa).1
    rw [← h, mark_app] at this
    cases this
  · rw [ea, eb] at h
    exact hexB_inj _ _ (app_cancel _ _ _ h)
  · rw [ea, eb] at h; exact h
  · rw [ea, eb] at h
    subst f4
    exact absurd (by rw [h, ByteArray.append_assoc]) (ver_head a (b ++ ⟨#[32]⟩) (legal_ver a la))
  · rw [ea, eb] at h
    subst f4
    exact absurd (by rw [← h, ByteArray.append_assoc]) (ver_head b (a ++ ⟨#[32]⟩) (legal_ver b lb))
  · rw [ea, eb] at h
    exact app_cancel _ _ _ (app_cancelR _ _ _ h)

set_option maxRecDepth 100000 in
set_option maxHeartbeats 1000000 in
theorem only_big (f : Int) (a b : ByteArray) (w : World) (h : (120 : Int) < (a.size : Int) ∨ (120 : Int) < (b.size : Int)) : Calls Tryd.prog 5 #[.int .i64 f, .string a, .string b] w fun e w' => e = .returned (.bool true) ∧ Below w.heap.size w w' := by
  by_cases h1 : (120 : Int) < (a.size : Int)
  · go_enter Tryd.func5, Tryd.ntmps5
    go_wp2_with fail
    refine (works_any _).mono ?_
    rintro e w1 ⟨rfl, b1⟩
    go_wp2
    go_ret
    exact ⟨rfl, b1⟩
  · have h2 : (120 : Int) < (b.size : Int) := by rcases h with h | h; exact absurd h h1; exact h
    have h1' : decide ((120 : Int) < (a.size : Int)) = false := decide_eq_false h1
    go_enter Tryd.func5, Tryd.ntmps5
    go_wp2_with fail
    refine (works_any _).mono ?_
    rintro e w1 ⟨rfl, b1⟩
    go_wp2
    go_ret
    exact ⟨rfl, b1⟩

set_option maxRecDepth 100000 in
set_option maxHeartbeats 1000000 in
theorem only_in (f : Int) (a b : ByteArray) (w : World) (h1 : ¬ (120 : Int) < (a.size : Int)) (h2 : ¬ (120 : Int) < (b.size : Int)) : Calls Tryd.prog 5 #[.int .i64 f, .string a, .string b] w fun e w' => e = .returned (.bool true) ∧ Below w.heap.size w w' := by
  have h1' : decide ((120 : Int) < (a.size : Int)) = false := decide_eq_false h1
  have h2' : decide ((120 : Int) < (b.size : Int)) = false := decide_eq_false h2
  have HA := Lib.hid (fun W => spell_any f a W (by omega))
  have HB := Lib.hid (fun W => spell_any f b W (by omega))
  have ba := spell_bad f a
  have bb := spell_bad f b
  have sa := spell_size f a
  have hinj := spell_inj f a b
  have hsame : a = b → (spellF f a).1 = (spellF f b).1 := fun h => by rw [h]
  generalize spellF f a = ra at HA ba sa hinj hsame
  generalize spellF f b = rb at HB bb hinj hsame
  obtain ⟨x, ea⟩ := ra
  obtain ⟨y, eb⟩ := rb
  simp only [] at ba bb sa hinj hsame
  have START : True := trivial
  by_cases hea : ea = 0
  · by_cases heb : eb = 0
    · have q1 : (x.toList == y.toList) = (a.toList == b.toList) := by
        by_cases hab : a = b
        · rw [hsame hab, hab, tl_self, tl_self]
        · rw [tl_ne a b hab, tl_ne x y (fun h => hab (hinj hea heb h))]
      have hsx : (x.size : Int) ≤ 2 * (a.size : Int) + 3 := by omega
      subst hea heb
      obtain ⟨q, hq⟩ : ∃ q, (a.toList == b.toList) = q := ⟨_, rfl⟩
      rw [hq] at q1
      clear ba bb hinj hsame START
      cases q
      · go_enter Tryd.func5, Tryd.ntmps5
        go_wp2_with fail
        refine (works_any _).mono ?_
        rintro e w1 ⟨rfl, b1⟩
        have B1 := Lib.hid b1
        clear b1
        go_wp2_with fail
        refine (HA.out _).mono ?_
        rintro e w2 ⟨rfl, b2⟩
        have B2 := Lib.hid (B1.out.trans (b2.mono B1.out.size))
        clear b2
        go_wp2_with fail
        refine (HB.out _).mono ?_
        rintro e w3 ⟨rfl, b3⟩
        have B3 := Lib.hid (B2.out.trans (b3.mono B2.out.size))
        clear b3
        go_wp2
        go_ret
        exact ⟨rfl, B3.out⟩
      · go_enter Tryd.func5, Tryd.ntmps5
        go_wp2_with fail
        refine (works_any _).mono ?_
        rintro e w1 ⟨rfl, b1⟩
        have B1 := Lib.hid b1
        clear b1
        go_wp2_with fail
        refine (HA.out _).mono ?_
        rintro e w2 ⟨rfl, b2⟩
        have B2 := Lib.hid (B1.out.trans (b2.mono B1.out.size))
        clear b2
        go_wp2_with fail
        refine (HB.out _).mono ?_
        rintro e w3 ⟨rfl, b3⟩
        have B3 := Lib.hid (B2.out.trans (b3.mono B2.out.size))
        clear b3
        go_wp2
        go_ret
        exact ⟨rfl, B3.out⟩
    · have hy := bb heb
      have ebb : (eb == 0) = false := by rw [beq_eq_false_iff_ne]; exact heb
      have ebn : (eb != 0) = true := by rw [bne, ebb]; rfl
      subst hea hy
      clear ba bb hinj hsame START heb
      go_enter Tryd.func5, Tryd.ntmps5
      go_wp2_with fail
      refine (works_any _).mono ?_
      rintro e w1 ⟨rfl, b1⟩
      have B1 := Lib.hid b1
      clear b1
      go_wp2_with fail
      refine (HA.out _).mono ?_
      rintro e w2 ⟨rfl, b2⟩
      have B2 := Lib.hid (B1.out.trans (b2.mono B1.out.size))
      clear b2
      go_wp2_with fail
      refine (HB.out _).mono ?_
      rintro e w3 ⟨rfl, b3⟩
      have B3 := Lib.hid (B2.out.trans (b3.mono B2.out.size))
      clear b3
      go_wp2
      go_ret
      exact ⟨rfl, B3.out⟩
  · have hx := ba hea
    have eab : (ea == 0) = false := by rw [beq_eq_false_iff_ne]; exact hea
    have ean : (ea != 0) = true := by rw [bne, eab]; rfl
    subst hx
    by_cases heb : eb = 0
    · subst heb
      clear ba bb hinj hsame START hea
      go_enter Tryd.func5, Tryd.ntmps5
      go_wp2_with fail
      refine (works_any _).mono ?_
      rintro e w1 ⟨rfl, b1⟩
      have B1 := Lib.hid b1
      clear b1
      go_wp2_with fail
      refine (HA.out _).mono ?_
      rintro e w2 ⟨rfl, b2⟩
      have B2 := Lib.hid (B1.out.trans (b2.mono B1.out.size))
      clear b2
      go_wp2_with fail
      refine (HB.out _).mono ?_
      rintro e w3 ⟨rfl, b3⟩
      have B3 := Lib.hid (B2.out.trans (b3.mono B2.out.size))
      clear b3
      go_wp2
      go_ret
      exact ⟨rfl, B3.out⟩
    · have hy := bb heb
      have ebb : (eb == 0) = false := by rw [beq_eq_false_iff_ne]; exact heb
      subst hy
      clear ba bb hinj hsame START heb hea
      go_enter Tryd.func5, Tryd.ntmps5
      go_wp2_with fail
      refine (works_any _).mono ?_
      rintro e w1 ⟨rfl, b1⟩
      have B1 := Lib.hid b1
      clear b1
      go_wp2_with fail
      refine (HA.out _).mono ?_
      rintro e w2 ⟨rfl, b2⟩
      have B2 := Lib.hid (B1.out.trans (b2.mono B1.out.size))
      clear b2
      go_wp2_with fail
      refine (HB.out _).mono ?_
      rintro e w3 ⟨rfl, b3⟩
      have B3 := Lib.hid (B2.out.trans (b3.mono B2.out.size))
      clear b3
      go_wp2
      go_ret
      exact ⟨rfl, B3.out⟩

theorem law_only (f : Int) (a b : ByteArray) (w : World) : Calls Tryd.prog 5 #[.int .i64 f, .string a, .string b] w fun e w' => e = .returned (.bool true) ∧ Below w.heap.size w w' := by
  by_cases h1 : (120 : Int) < (a.size : Int)
  · exact only_big f a b w (.inl h1)
  · by_cases h2 : (120 : Int) < (b.size : Int)
    · exact only_big f a b w (.inr h2)
    · exact only_in f a b w h1 h2
end Go.Proofs.YtfljnhmpelpdaaaDoor
