/- What is spelled is one word of the format, and reads back. -/
import Derived.Test.YtfljnhmpelpdaaaDoorFinds
import Derived.Test.YtfljnhmpelpdaaaDoorFindsLaw
namespace Go.Proofs.YtfljnhmpelpdaaaDoor
open Go.RowKit
set_option maxRecDepth 100000

theorem name_back (s : ByteArray) : (⟨s.data.toList.toArray⟩ : ByteArray) = s := bytes_inj _ _ (by simp)
theorem read_spell (f : Int) (s : ByteArray) (hn : nameB s = true) (hf : fmtB f = true) (hx : hexedB f = true) : readF f (spellF f s).1 = (s, 0) := by
  have h0 := spell_ok f s hn hf
  have hname : nameOf (spellF f s).1 = some s := by
    rcases (spell_forms f s h0).2.2 with ⟨_, h, h'⟩ | ⟨_, _, h, _⟩ | ⟨h, _⟩ | ⟨h, _⟩
    · rw [h]; exact name_self s (h' hx).1
    · rw [h, name_app, unhex_hex, Option.map_some, name_back]
    · exact absurd h (hexed_no4 f hx)
    · exact absurd h (hexed_no4 f hx)
  unfold readF
  rw [hf, hx, fs_is f (spellF f s).1 s hname h0 rfl]
  rfl

theorem tw_all {α : Type} (p : α → Bool) : ∀ l : List α, (∀ x ∈ l, p x = true) → l.takeWhile p = l
  | [], _ => rfl
  | x :: l, h => by rw [List.takeWhile_cons, h x (by simp), if_pos rfl, tw_all p l fun y hy => h y (by simp [hy])]
theorem skip_all (p : UInt8 → Bool) (t : ByteArray) (h : ∀ c ∈ t.data.toList, p c = true) : Tok.skip p t 0 = t.size := by
  unfold Tok.skip
  rw [List.drop_zero, tw_all p _ h]
  simp
theorem ext_all (t : ByteArray) : t.extract 0 t.size = t := bytes_inj _ _ (by rw [ByteArray.data_extract, Array.toList_extract, List.extract_eq_take_drop, List.drop_zero]; exact List.take_of_length_le (by simp))
theorem at0 (t : ByteArray) (c : UInt8) (l : List UInt8) (h : t.data.toList = c :: l) : Tok.atB t 0 = (c.toNat : Int) := by unfold Tok.atB; rw [h]; rfl

/-- a text of words' bytes alone is one word -/
theorem toksB_word (t : ByteArray) (h0 : 0 < t.size) (h : ∀ c ∈ t.data.toList, Tok.wB c = true) : Tok.toksB t = [⟨0, t, 0⟩, ⟨3, ⟨#[]⟩, t.size⟩] := by
  obtain ⟨c, l, hc⟩ : ∃ c l, t.data.toList = c :: l := by
    cases hl : t.data.toList with
    | nil => have : t.data.toList.length = t.size := by simp
             rw [hl] at this; simp at this; omega
    | cons c l => exact ⟨c, l, rfl⟩
  have hw := h c (by rw [hc]; simp)
  have ha := at0 t c l hc
  have hno : (c.toNat : Int) ≠ 10 ∧ (c.toNat : Int) ≠ 35 ∧ (c.toNat : Int) ≠ 92 ∧ Lib.hasPrefix [c] [92] = false := by
    have := all256 (fun c => decide (Tok.wB c = true → ((c.toNat : Int) ≠ 10 ∧ (c.toNat : Int) ≠ 35 ∧ (c.toNat : Int) ≠ 92 ∧ Lib.hasPrefix [c] [92] = false))) (by decide +kernel) c
    exact of_decide_eq_true this hw
  obtain ⟨n1, n2, n3, n4⟩ := hno
  have hp : Lib.hasPrefix (t.data.toList.drop 0) [92, 10] = false := by
    rw [List.drop_zero, hc]
    unfold Lib.hasPrefix at n4 ⊢
    simp only [List.isPrefixOf] at n4 ⊢
    simp only [Bool.and_true] at n4
    rw [n4]
    rfl
  have hst : Tok.stepB t 0 [] = ([⟨0, t, 0⟩], t.size) := by
    unfold Tok.stepB
    rw [ha, if_neg n1, if_neg n2, hp, if_neg (by simp), if_neg n3, Int.toNat_natCast, UInt8.ofNat_toNat, if_pos hw, skip_all _ _ h, ext_all]
    rfl
  have hrun : Tok.runAll (fun a l => some (Tok.stepB t a l)) t.size t.size [] 0 = .inl [⟨0, t, 0⟩] := by
    obtain ⟨n, hn⟩ : ∃ n, t.size = n + 1 := ⟨t.size - 1, by omega⟩
    have e : Tok.runAll (fun a l => some (Tok.stepB t a l)) t.size (n + 1) [] 0 = .inl [⟨0, t, 0⟩] := by
      rw [Tok.runAll, if_pos h0]
      simp only [hst]
      cases n with
      | zero => rfl
      | succ n => rw [Tok.runAll, if_neg (by omega)]
    rw [← hn] at e
    exact e
  unfold Tok.toksB
  rw [hrun]
  rfl
theorem toksN_word (t : ByteArray) (h0 : 0 < t.size) (h : ∀ c ∈ t.data.toList, Tok.wN c = true) : Tok.toksN t = .inl [⟨0, t, 0⟩] := by
  obtain ⟨c, l, hc⟩ : ∃ c l, t.data.toList = c :: l := by
    cases hl : t.data.toList with
    | nil => have : t.data.toList.length = t.size := by simp
             rw [hl] at this; simp at this; omega
    | cons c l => exact ⟨c, l, rfl⟩
  have hw := h c (by rw [hc]; simp)
  have ha := at0 t c l hc
  have hno : Tok.kBl c = false ∧ (c.toNat : Int) ≠ 35 ∧ Tok.kM c = false := by
    have := all256 (fun c => decide (Tok.wN c = true → (Tok.kBl c = false ∧ (c.toNat : Int) ≠ 35 ∧ Tok.kM c = false))) (by decide +kernel) c
    exact of_decide_eq_true this hw
  obtain ⟨n1, n2, n3⟩ := hno
  have hst : Tok.stepN t 0 [] = some ([⟨0, t, 0⟩], t.size) := by
    unfold Tok.stepN
    rw [ha, Int.toNat_natCast, UInt8.ofNat_toNat, n1, if_neg (by simp), if_neg n2, n3, if_neg (by simp), if_pos hw, skip_all _ _ h, ext_all]
    rfl
  obtain ⟨n, hn⟩ : ∃ n, t.size = n + 1 := ⟨t.size - 1, by omega⟩
  have e : Tok.runAll (Tok.stepN t) t.size (n + 1) [] 0 = .inl [⟨0, t, 0⟩] := by
    rw [Tok.runAll, if_pos h0, hst]
    cases n with
    | zero => rfl
    | succ n => simp only []; rw [Tok.runAll, if_neg (by omega)]
  unfold Tok.toksN
  rw [← hn] at e
  exact e
theorem no_prefix (c d : UInt8) (l m : List UInt8) (h : Lib.hasPrefix [c] [d] = false) : Lib.hasPrefix (c :: l) (d :: m) = false := by
  unfold Lib.hasPrefix at h ⊢
  simp only [List.isPrefixOf] at h ⊢
  simp only [Bool.and_true] at h
  rw [h]
  rfl
theorem toksV_word (t : ByteArray) (h0 : 0 < t.size) (h : ∀ c ∈ t.data.toList, Tok.wV c = true) : Tok.toksV t = .inl [⟨0, t, 0⟩] := by
  obtain ⟨c, l, hc⟩ : ∃ c l, t.data.toList = c :: l := by
    cases hl : t.data.toList with
    | nil => have : t.data.toList.length = t.size := by simp
             rw [hl] at this; simp at this; omega
    | cons c l => exact ⟨c, l, rfl⟩
  have hw := h c (by rw [hc]; simp)
  have ha := at0 t c l hc
  have hno : Tok.kBl c = false ∧ Lib.hasPrefix [c] [47] = false ∧ (c.toNat : Int) ≠ 92 ∧ Tok.mV c = false := by
    have := all256 (fun c => decide (Tok.wV c = true → (Tok.kBl c = false ∧ Lib.hasPrefix [c] [47] = false ∧ (c.toNat : Int) ≠ 92 ∧ Tok.mV c = false))) (by decide +kernel) c
    exact of_decide_eq_true this hw
  obtain ⟨n1, n2, n3, n4⟩ := hno
  have hd : t.data.toList.drop 0 = c :: l := by rw [List.drop_zero, hc]
  have hst : Tok.stepV t 0 [] = some ([⟨0, t, 0⟩], t.size) := by
    unfold Tok.stepV
    rw [ha, Int.toNat_natCast, UInt8.ofNat_toNat, n1, if_neg (by simp), hd, no_prefix c 47 l _ n2, if_neg (by simp), no_prefix c 47 l _ n2, if_neg (by simp), if_neg n3, n4, if_neg (by simp), if_pos hw, skip_all _ _ h, ext_all]
    rfl
  obtain ⟨n, hn⟩ : ∃ n, t.size = n + 1 := ⟨t.size - 1, by omega⟩
  have e : Tok.runAll (Tok.stepV t) t.size (n + 1) [] 0 = .inl [⟨0, t, 0⟩] := by
    rw [Tok.runAll, if_pos h0, hst]
    cases n with
    | zero => rfl
    | succ n => simp only []; rw [Tok.runAll, if_neg (by omega)]
  unfold Tok.toksV
  rw [← hn] at e
  exact e
theorem tw_app {α : Type} (p : α → Bool) (y : α) (hy : p y = false) : ∀ l : List α, (∀ x ∈ l, p x = true) → (l ++ [y]).takeWhile p = l
  | [], _ => by rw [List.nil_append, List.takeWhile_cons, hy]; rfl
  | x :: l, h => by rw [List.cons_append, List.takeWhile_cons, h x (by simp), if_pos rfl, tw_app p y hy l fun z hz => h z (by simp [hz])]
theorem toksV_esc (s : ByteArray) (h0 : 0 < s.size) (h : ∀ c ∈ s.data.toList, Tok.isIn 33 126 c = true) : Tok.toksV (⟨#[92]⟩ ++ s ++ ⟨#[32]⟩) = .inl [⟨2, s, 0⟩] := by
  have hl : (⟨#[92]⟩ ++ s ++ ⟨#[32]⟩ : ByteArray).data.toList = 92 :: (s.data.toList ++ [32]) := by
    rw [ByteArray.data_append, ByteArray.data_append, Array.toList_append, Array.toList_append]; rfl
  have hz : (⟨#[92]⟩ ++ s ++ ⟨#[32]⟩ : ByteArray).size = s.size + 2 := by
    rw [ByteArray.size_append, ByteArray.size_append]; show 1 + s.size + 1 = _; omega
  generalize (⟨#[92]⟩ ++ s ++ ⟨#[32]⟩ : ByteArray) = u at hl hz
  have hsl : s.data.toList.length = s.size := by simp
  have ha := at0 u 92 _ hl
  have hd : u.data.toList.drop 0 = 92 :: (s.data.toList ++ [32]) := by rw [List.drop_zero, hl]
  have hsk : Tok.skip (Tok.isIn 33 126) u (0 + 1) = s.size + 1 := by
    unfold Tok.skip
    rw [hl, List.drop_succ_cons, List.drop_zero, tw_app _ 32 (by decide +kernel) _ h, hsl]
    omega
  have hex : u.extract (0 + 1) (s.size + 1) = s := bytes_inj _ _ (by
    rw [ByteArray.data_extract, Array.toList_extract, List.extract_eq_take_drop, hl, List.drop_succ_cons, List.drop_zero, show s.size + 1 - (0 + 1) = s.data.toList.length from by omega, List.take_left])
  have hst : Tok.stepV u 0 [] = some ([⟨2, s, 0⟩], s.size + 1) := by
    unfold Tok.stepV
    rw [ha, Int.toNat_natCast, UInt8.ofNat_toNat, show Tok.kBl 92 = false from by decide +kernel, if_neg (by simp), hd, no_prefix 92 47 _ _ (by decide +kernel), if_neg (by simp), no_prefix 92 47 _ _ (by decide +kernel), if_neg (by simp), if_pos (by decide), hsk, if_neg (by omega), hex]
    rfl
  have hat : Tok.atB u (s.size + 1) = 32 := by
    unfold Tok.atB
    rw [hl, List.getElem?_cons_succ, List.getElem?_append_right (by omega), hsl, Nat.sub_self]
    rfl
  have hst2 : Tok.stepV u (s.size + 1) [⟨2, s, 0⟩] = some ([⟨2, s, 0⟩], s.size + 2) := by
    unfold Tok.stepV
    rw [hat, show Tok.kBl (UInt8.ofNat (32 : Int).toNat) = true from by decide +kernel, if_pos rfl]
  have e : Tok.runAll (Tok.stepV u) (s.size + 2) (s.size + 2) [] 0 = .inl [⟨2, s, 0⟩] := by
    rw [Tok.runAll, if_pos (by omega), hst]
    simp only []
    rw [Tok.runAll, if_pos (by omega), hst2]
    simp only []
    cases s.size with
    | zero => rfl
    | succ n => rw [Tok.runAll, if_neg (by omega)]
  unfold Tok.toksV
  rw [hz]
  exact e

/-! ### The bytes of a spelling -/
theorem hexL_mem (l : List UInt8) (c : UInt8) (h : c ∈ hexL l) : ∃ n, n < 16 ∧ c = hd n := by
  unfold hexL at h
  obtain ⟨d, _, hd'⟩ := List.mem_flatMap.1 h
  have := d.toNat_lt
  unfold hexC at hd'
  simp at hd'
  rcases hd' with h | h
  · exact ⟨_, by omega, h⟩
  · exact ⟨_, by omega, h⟩
theorem hex_all (p : UInt8 → Bool) (hp : ∀ i : Fin 16, p (hd i.val) = true) (h1 : p 120 = true) (h2 : p 95 = true) (l : List UInt8) : ∀ c ∈ (⟨#[120, 95, 95]⟩ ++ ⟨(hexL l).toArray⟩ : ByteArray).data.toList, p c = true := by
  intro c hc
  rw [ByteArray.data_append, Array.toList_append] at hc
  rcases List.mem_append.1 hc with hc | hc
  · have : c ∈ ([120, 95, 95] : List UInt8) := hc
    simp at this
    rcases this with rfl | rfl
    · exact h1
    · exact h2
  · obtain ⟨n, hn, rfl⟩ := hexL_mem l c (by simpa using hc)
    exact hp ⟨n, hn⟩
theorem any_no' (s : ByteArray) (ch : List UInt8) (h : anyIn s ch = false) : ∀ c ∈ s.data.toList, ch.contains c = false := by
  intro c hc
  unfold anyIn at h
  rw [List.any_eq_false] at h
  have := h c hc
  simpa using this
theorem seen_all (s : ByteArray) (h : nameB s = true) : ∀ c ∈ s.data.toList, seenB c = true := by
  unfold nameB at h
  simp only [Bool.and_eq_true] at h
  exact List.all_eq_true.1 h.2.2
theorem spell2_all (s : ByteArray) (hn : nameB s = true) : ∀ c ∈ (spellF 2 s).1.data.toList, Tok.wB c = true := by
  rcases (spell_forms 2 s (spell_ok 2 s hn rfl)).2.2 with ⟨_, h, h'⟩ | ⟨_, _, h, _⟩ | ⟨h, _⟩ | ⟨h, _⟩
  · rw [h]
    intro c hc
    have hl := (h' rfl).2
    have hl2 : blifB s = true := by
      rw [show legalB 2 s = blifB s from by unfold legalB lawB; rw [hn]; rfl] at hl
      exact hl
    unfold blifB at hl2
    simp only [Bool.and_eq_true, Bool.not_eq_true'] at hl2
    have h1 := any_no' s _ hl2.2 c hc
    have h2 := seen_all s hn c hc
    have := all256 (fun c => decide (seenB c = true → ([35, 92] : List UInt8).contains c = false → Tok.wB c = true)) (by decide +kernel) c
    exact of_decide_eq_true this h2 h1
  · rw [h]; exact hex_all _ (by decide +kernel) (by decide +kernel) (by decide +kernel) _
  · exact absurd h (by decide)
  · exact absurd h (by decide)
theorem spell3_all (s : ByteArray) (hn : nameB s = true) : ∀ c ∈ (spellF 3 s).1.data.toList, Tok.wN c = true := by
  rcases (spell_forms 3 s (spell_ok 3 s hn rfl)).2.2 with ⟨_, h, h'⟩ | ⟨_, _, h, _⟩ | ⟨h, _⟩ | ⟨h, _⟩
  · rw [h]
    intro c hc
    have hl := (h' rfl).2
    have hl2 : benchB s = true := by
      rw [show legalB 3 s = benchB s from by unfold legalB lawB; rw [hn]; rfl] at hl
      exact hl
    unfold benchB at hl2
    simp only [Bool.not_eq_true'] at hl2
    have h1 := any_no' s _ hl2 c hc
    have h2 := seen_all s hn c hc
    have := all256 (fun c => decide (seenB c = true → ([61, 40, 41, 44, 35] : List UInt8).contains c = false → Tok.wN c = true)) (by decide +kernel) c
    exact of_decide_eq_true this h2 h1
  · rw [h]; exact hex_all _ (by decide +kernel) (by decide +kernel) (by decide +kernel) _
  · exact absurd h (by decide)
  · exact absurd h (by decide)
theorem spell_pos (f : Int) (s : ByteArray) (hn : nameB s = true) (hf : fmtB f = true) : 0 < (spellF f s).1.size := by
  have h0 := (name_size s hn).1
  rcases (spell_forms f s (spell_ok f s hn hf)).2.2 with ⟨_, h, _⟩ | ⟨_, _, h, _⟩ | ⟨_, h, _⟩ | ⟨_, h, _⟩
  · rw [h]; exact h0
  · rw [h, ByteArray.size_append]; show 0 < 3 + _; omega
  · rw [h]; exact h0
  · rw [h, ByteArray.size_append, ByteArray.size_append]; show 0 < 1 + _ + _; omega
/-- the word of a spelling in Verilog -/
theorem verilog_back (s : ByteArray) (hn : nameB s = true) : ∃ x : Tok.Tk, Tok.toksV (spellF 4 s).1 = .inl [x] ∧ wordF 4 (toI x) = (s, 0) ∧ x.t.size ≤ 100000 := by
  have hsz := name_size s hn
  have hr : readF 4 s = (s, 0) := by rw [show readF 4 s = if nameB s = true then (s, 0) else (⟨#[]⟩, 4) from rfl, hn]; rfl
  cases hl : legalB 4 s
  · refine ⟨⟨2, s, 0⟩, ?_, ?_, by simp only []; omega⟩
    · rw [show spellF 4 s = (⟨#[92]⟩ ++ s ++ ⟨#[32]⟩, 0) from by unfold spellF; rw [hn, hl]; rfl]
      exact toksV_esc s hsz.1 fun c hc => by
        have h2 := seen_all s hn c hc
        have := all256 (fun c => decide (seenB c = true → Tok.isIn 33 126 c = true)) (by decide +kernel) c
        exact of_decide_eq_true this h2
    · exact hr
  · refine ⟨⟨0, s, 0⟩, ?_, ?_, by simp only []; omega⟩
    · rw [show spellF 4 s = (s, 0) from by unfold spellF; rw [hn, hl]; rfl]
      refine toksV_word s hsz.1 fun c hc => ?_
      have hv := legal_ver s hl
      unfold verB at hv
      simp only [Bool.and_eq_true] at hv
      have h2 := List.all_eq_true.1 hv.2.1 c hc
      have := all256 (fun c => decide (verW (c.toNat : Int) = true → Tok.wV c = true)) (by decide +kernel) c
      exact of_decide_eq_true this h2
    · show wordF 4 ⟨0, s, 0⟩ = (s, 0)
      unfold wordF
      simp only [hl]
      exact hr
end Go.Proofs.YtfljnhmpelpdaaaDoor
