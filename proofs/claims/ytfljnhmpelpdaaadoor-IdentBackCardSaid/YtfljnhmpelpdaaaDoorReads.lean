/- IdentReads: what is read is a name; spelled, and read again, it is the same. -/
import Derived.Test.YtfljnhmpelpdaaaDoorOnly
namespace Go.Proofs.YtfljnhmpelpdaaaDoor
open Go.RowKit

theorem spell_ok (f : Int) (s : ByteArray) (hn : nameB s = true) (hf : fmtB f = true) : (spellF f s).2 = 0 := by
  unfold spellF
  rw [hn, hf]
  simp only [Bool.true_eq_false, if_false]
  split
  · split <;> rfl
  · split <;> rfl
theorem name_app (H : List UInt8) : nameOf (⟨#[120, 95, 95]⟩ ++ ⟨H.toArray⟩) = (unhexF H).map fun t => ⟨t.toArray⟩ := by
  unfold nameOf
  rw [mark_app, if_pos rfl]
  have e : ((⟨#[120, 95, 95]⟩ ++ ⟨H.toArray⟩ : ByteArray).extract 3 (⟨#[120, 95, 95]⟩ ++ ⟨H.toArray⟩ : ByteArray).size).data.toList = H := by
    rw [ByteArray.data_extract, Array.toList_extract, List.extract_eq_take_drop, ByteArray.data_append, Array.toList_append]
    have h3 : (ByteArray.size ⟨#[120, 95, 95]⟩) = 3 := rfl
    have h4 : (ByteArray.size ⟨H.toArray⟩) = H.length := by show H.toArray.size = _; simp
    rw [ByteArray.size_append, h3, h4]
    simp
  rw [e]
theorem fs_ok (f : Int) (s : ByteArray) (h : (fsF f s).2 = true) : (spellF f (fsF f s).1).2 = 0 ∧ (spellF f (fsF f s).1).1 = s ∧ (mark3 s = false → (fsF f s).1 = s) := by
  unfold fsF at h ⊢
  cases hn : nameOf s with
  | none => rw [hn] at h; cases h
  | some n =>
    rw [hn] at h
    simp only [Bool.and_eq_true, beq_iff_eq] at h
    refine ⟨h.1, bytes_inj _ _ (by rw [← ByteArray.toList_eq, ← ByteArray.toList_eq]; exact h.2), fun hm => ?_⟩
    unfold nameOf at hn
    rw [hm] at hn
    simp at hn
    exact hn.symm
theorem fs_is (f : Int) (s n : ByteArray) (hn : nameOf s = some n) (h1 : (spellF f n).2 = 0) (h2 : (spellF f n).1 = s) : fsF f s = (n, true) := by
  unfold fsF
  rw [hn]
  simp only [h1, h2]
  simp
theorem name_self (s : ByteArray) (hm : mark3 s = false) : nameOf s = some s := by unfold nameOf; rw [hm]; rfl
theorem not_hexed (f : Int) (hf : fmtB f = true) (hx : hexedB f = false) : f = 0 ∨ f = 1 ∨ f = 4 := by
  unfold fmtB at hf
  unfold hexedB at hx
  simp at hf hx
  omega
theorem hexed_no4 (f : Int) (h : hexedB f = true) : f ≠ 4 := by
  unfold hexedB at h
  simp at h
  omega
theorem read_ok (f : Int) (s : ByteArray) (h : (readF f s).2 = 0) : nameB (readF f s).1 = true ∧ fmtB f = true ∧ (spellF f (readF f s).1).2 = 0 ∧ (mark3 s = false → (readF f s).1 = s) ∧ (f = 4 → (readF f s).1 = s) ∧
    (f ≠ 4 → readF f (spellF f (readF f s).1).1 = ((readF f s).1, 0)) := by
  cases hf : fmtB f
  · unfold readF at h; rw [hf] at h; simp at h
  · cases hx : hexedB f
    · have hr : readF f s = if nameB s = true then (s, 0) else (⟨#[]⟩, 4) := by unfold readF; rw [hf, hx]; simp
      cases hn : nameB s
      · rw [hr, hn] at h; simp at h
      · rw [hn, if_pos rfl] at hr
        rw [hr]
        refine ⟨hn, rfl, spell_ok f s hn hf, fun _ => rfl, fun _ => rfl, fun h4 => ?_⟩
        have hsp : (spellF f s).1 = s := by
          obtain ⟨_, _, hfm⟩ := spell_forms f s (spell_ok f s hn hf)
          rcases hfm with ⟨_, e, _⟩ | ⟨x, _, _, _⟩ | ⟨f4, _, _⟩ | ⟨f4, _, _⟩
          · exact e
          · rw [hx] at x; cases x
          · exact absurd f4 h4
          · exact absurd f4 h4
        show readF f (spellF f s).1 = _
        rw [hsp, hr]
    · cases hfs : (fsF f s).2
      · cases hl : legalB f s
        · unfold readF at h; rw [hf, hx, hfs, hl] at h; simp at h
        · have hr : readF f s = (s, 0) := by unfold readF; rw [hf, hx, hfs, hl]; simp
          have hn := legal_name f s hl
          have hso := spell_ok f s hn hf
          rw [hr]
          obtain ⟨_, _, hfm⟩ := spell_forms f s hso
          have hform : (spellF f s).1 = ⟨#[120, 95, 95]⟩ ++ ⟨(hexL s.data.toList).toArray⟩ := by
            rcases hfm with ⟨_, e, hm⟩ | ⟨_, _, e, _⟩ | ⟨f4, _, _⟩ | ⟨f4, _, _⟩
            · have := fs_is f s s (name_self s (hm hx).1) hso e
              rw [this] at hfs
              cases hfs
            · exact e
            · exact absurd f4 (hexed_no4 f hx)
            · exact absurd f4 (hexed_no4 f hx)
          refine ⟨hn, rfl, hso, fun _ => rfl, fun _ => rfl, fun _ => ?_⟩
          have hfs2 : fsF f (spellF f s).1 = (s, true) := by
            refine fs_is f _ s ?_ hso rfl
            rw [hform, name_app, unhex_hex]
            simp
          show readF f (spellF f s).1 = _
          unfold readF
          rw [hf, hx, hfs2]
          simp
      · have hr : readF f s = ((fsF f s).1, 0) := by unfold readF; rw [hf, hx, hfs]; simp
        obtain ⟨h1, h2, h3⟩ := fs_ok f s hfs
        rw [hr]
        refine ⟨(spell_forms f _ h1).1, rfl, h1, h3, fun f4 => absurd f4 (hexed_no4 f hx), fun _ => ?_⟩
        show readF f (spellF f (fsF f s).1).1 = _
        rw [h2, hr]
theorem read_bad (f : Int) (s : ByteArray) (h : (readF f s).2 ≠ 0) : (readF f s).1 = ⟨#[]⟩ ∧ legalB f s = false := by
  unfold readF at h ⊢
  cases hf : fmtB f
  · refine ⟨by simp, ?_⟩
    unfold legalB
    rw [hf]
    rfl
  · rw [hf] at h
    cases hx : hexedB f
    · rw [hx] at h
      cases hn : nameB s
      · refine ⟨by simp, ?_⟩
        unfold legalB
        rw [hn]
        simp
      · rw [hn] at h; simp at h
    · rw [hx] at h
      cases hfs : (fsF f s).2
      · rw [hfs] at h
        cases hl : legalB f s
        · exact ⟨by simp, rfl⟩
        · rw [hl] at h; simp at h
      · rw [hfs] at h; simp at h
theorem read_size (f : Int) (s : ByteArray) : (readF f s).1.size ≤ s.size ∨ (readF f s).1.size ≤ 40 := by
  by_cases h : (readF f s).2 = 0
  · obtain ⟨hn, _⟩ := read_ok f s h
    exact .inr (name_size _ hn).2
  · rw [(read_bad f s h).1]
    exact .inr (by decide)
theorem mark_ext (s : ByteArray) (_ : 3 ≤ s.size) : mark3 s = ((s.extract 0 3).toList == ByteArray.toList ⟨#[120, 95, 95]⟩) := by
  rw [tl_eq]
  unfold mark3 Lib.hasPrefix
  rw [ByteArray.data_extract, Array.toList_extract, List.extract_eq_take_drop, Bool.eq_iff_iff, List.isPrefixOf_iff_prefix, List.prefix_iff_eq_take]
  simp
  constructor <;> exact fun h => h.symm
theorem lit3 : ByteArray.toList ⟨#[120, 95, 95]⟩ = [120, 95, 95] := by rw [ByteArray.toList_eq]
theorem mark_no (s : ByteArray) (h : s.size < 3) : mark3 s = false := by
  cases hm : mark3 s
  · rfl
  · have := mark_size s hm
    omega

set_option maxRecDepth 100000 in
set_option maxHeartbeats 1000000 in
theorem reads_big (f : Int) (s : ByteArray) (w : World) (h : (120 : Int) < (s.size : Int)) : Calls Tryd.prog 6 #[.int .i64 f, .string s] w fun e w' => e = .returned (.bool true) ∧ Below w.heap.size w w' := by
  go_enter Tryd.func6, Tryd.ntmps6
  go_wp2_with fail
  refine (works_any _).mono ?_
  rintro e w1 ⟨rfl, b1⟩
  go_wp2
  go_ret
  exact ⟨rfl, b1⟩

set_option maxRecDepth 100000 in
set_option maxHeartbeats 1000000 in
theorem reads_bad (f : Int) (s : ByteArray) (w : World) (hs : ¬ (120 : Int) < (s.size : Int)) (h : (readF f s).2 ≠ 0) : Calls Tryd.prog 6 #[.int .i64 f, .string s] w fun e w' => e = .returned (.bool true) ∧ Below w.heap.size w w' := by
  have HR := Lib.hid (fun W => read_any f s W (by omega))
  obtain ⟨hx, hl⟩ := read_bad f s h
  generalize readF f s = r at HR h hx
  obtain ⟨n, er⟩ := r
  simp only [] at h hx
  subst hx
  have HL := Lib.hid hl
  have ean : (er != 0) = true := by rw [bne_iff_ne]; exact h
  have eab : (er == 0) = false := by rw [beq_eq_false_iff_ne]; exact h
  clear hl h
  go_enter Tryd.func6, Tryd.ntmps6
  go_wp2_with fail
  refine (works_any _).mono ?_
  rintro e w1 ⟨rfl, b1⟩
  have B1 := Lib.hid b1
  clear b1
  go_wp2_with fail
  refine (HR.out _).mono ?_
  rintro e w2 ⟨rfl, b2⟩
  have B2 := Lib.hid (B1.out.trans (b2.mono B1.out.size))
  clear b2
  go_wp2_with fail
  refine (legal_any f s _).mono ?_
  rw [HL.out]
  rintro e w3 ⟨rfl, b3⟩
  have B3 := Lib.hid (B2.out.trans (b3.mono B2.out.size))
  clear b3
  go_wp2
  go_ret
  exact ⟨rfl, B3.out⟩

/-- what a read that succeeds gives the walk -/
def ReadAs (f : Int) (s n t : ByteArray) (_w : World) : Prop :=
  (∀ W, Calls Tryd.prog 16 #[.int .i64 f, .string s] W (Two W (n, 0))) ∧ (∀ W, Calls Tryd.prog 15 #[.int .i64 f, .string n] W (Two W (t, 0))) ∧ nameB n = true ∧ (f ≠ 4 → ∀ W, Calls Tryd.prog 16 #[.int .i64 f, .string t] W (Two W (n, 0)))
theorem readAs_of (f : Int) (s : ByteArray) (w : World) (hs : s.size ≤ 120) (h : (readF f s).2 = 0) : ∃ n t, ReadAs f s n t w ∧ (mark3 s = false → n = s) ∧ (f = 4 → n = s) := by
  obtain ⟨h1, h2, h3, h4, h5, h6⟩ := read_ok f s h
  have hz := name_size _ h1
  have hsp := spell_size f (readF f s).1
  refine ⟨(readF f s).1, (spellF f (readF f s).1).1, ⟨fun W => ?_, fun W => ?_, h1, fun hf W => ?_⟩, h4, h5⟩
  · have := read_any f s W (by omega)
    rwa [show readF f s = ((readF f s).1, 0) from by rw [← h]] at this
  · have := spell_any f (readF f s).1 W (by omega)
    rwa [show spellF f (readF f s).1 = ((spellF f (readF f s).1).1, 0) from by rw [← h3]] at this
  · have := read_any f (spellF f (readF f s).1).1 W (by omega)
    rwa [h6 hf] at this

set_option maxRecDepth 100000 in
set_option maxHeartbeats 1000000 in
theorem reads_n4 (f : Int) (s t : ByteArray) (w : World) (hs : ¬ (120 : Int) < (s.size : Int)) (hf : f ≠ 4) (hr : ReadAs f s s t w) : Calls Tryd.prog 6 #[.int .i64 f, .string s] w fun e w' => e = .returned (.bool true) ∧ Below w.heap.size w w' := by
  obtain ⟨r1, r2, hn, r3⟩ := hr
  have HR := Lib.hid r1
  have HS := Lib.hid r2
  have HN := Lib.hid hn
  have HA := Lib.hid (r3 hf)
  have hfb : (f == 4) = false := by rw [beq_eq_false_iff_ne]; exact hf
  have htl : (s.toList == s.toList) = true := tl_self s
  clear r1 r2 r3 hn hf
  by_cases h3 : s.size < 3
  · have h3i : (s.size : Int) < 3 := by omega
    clear h3
    cases hl : legalB f s
    · have HL := Lib.hid hl
      clear hl
      go_enter Tryd.func6, Tryd.ntmps6
      go_wp2_with fail
      refine (works_any _).mono ?_
      rintro e w1 ⟨rfl, b1⟩
      have B1 := Lib.hid b1
      clear b1
      go_wp2_with fail
      refine (HR.out _).mono ?_
      rintro e w2 ⟨rfl, b2⟩
      have B2 := Lib.hid (B1.out.trans (b2.mono B1.out.size))
      clear b2
      go_wp2_with fail
      refine (HS.out _).mono ?_
      rintro e w3 ⟨rfl, b3⟩
      have B3 := Lib.hid (B2.out.trans (b3.mono B2.out.size))
      clear b3
      go_wp2_with fail
      refine (name_any s _).mono ?_
      rw [HN.out]
      rintro e w' ⟨rfl, rfl⟩
      go_wp2_with fail
      refine (legal_any f s _).mono ?_
      rw [HL.out]
      rintro e w4 ⟨rfl, b4⟩
      have B4 := Lib.hid (B3.out.trans (b4.mono B3.out.size))
      clear b4
      go_wp2_with fail
      refine (HA.out _).mono ?_
      rintro e w5 ⟨rfl, b5⟩
      have B5 := Lib.hid (B4.out.trans (b5.mono B4.out.size))
      clear b5
      go_wp2
      go_ret
      exact ⟨rfl, B5.out⟩
    · have HL := Lib.hid hl
      clear hl
      go_enter Tryd.func6, Tryd.ntmps6
      go_wp2_with fail
      refine (works_any _).mono ?_
      rintro e w1 ⟨rfl, b1⟩
      have B1 := Lib.hid b1
      clear b1
      go_wp2_with fail
      refine (HR.out _).mono ?_
      rintro e w2 ⟨rfl, b2⟩
      have B2 := Lib.hid (B1.out.trans (b2.mono B1.out.size))
      clear b2
      go_wp2_with fail
      refine (HS.out _).mono ?_
      rintro e w3 ⟨rfl, b3⟩
      have B3 := Lib.hid (B2.out.trans (b3.mono B2.out.size))
      clear b3
      go_wp2_with fail
      refine (name_any s _).mono ?_
      rw [HN.out]
      rintro e w' ⟨rfl, rfl⟩
      go_wp2_with fail
      refine (legal_any f s _).mono ?_
      rw [HL.out]
      rintro e w4 ⟨rfl, b4⟩
      have B4 := Lib.hid (B3.out.trans (b4.mono B3.out.size))
      clear b4
      go_wp2_with fail
      refine (HA.out _).mono ?_
      rintro e w5 ⟨rfl, b5⟩
      have B5 := Lib.hid (B4.out.trans (b5.mono B4.out.size))
      clear b5
      go_wp2
      go_ret
      exact ⟨rfl, B5.out⟩
  · have h3i : (3 : Int) ≤ (s.size : Int) := by omega
    have hsl : ∀ wx : World, (Instr.slice 9 (.string s) none (some (.int .i64 3)) none).run Tryd.prog wx = .ok (.string (s.extract 0 3)) wx := fun wx => run_slice_string_h (P := Tryd.prog) wx 9 s Tryd.underlying9 .i64 3 (by omega) (by omega)
    generalize s.extract 0 3 = u at hsl
    clear h3
    cases hm : (u.toList == ByteArray.toList ⟨#[120, 95, 95]⟩)
    · have hm2 : (u.toList == [120, 95, 95]) = false := by rw [← lit3]; exact hm
      cases hl : legalB f s
      · have HL := Lib.hid hl
        clear hl
        go_enter Tryd.func6, Tryd.ntmps6
        go_wp2_with fail
        refine (works_any _).mono ?_
        rintro e w1 ⟨rfl, b1⟩
        have B1 := Lib.hid b1
        clear b1
        go_wp2_with fail
        refine (HR.out _).mono ?_
        rintro e w2 ⟨rfl, b2⟩
        have B2 := Lib.hid (B1.out.trans (b2.mono B1.out.size))
        clear b2
        go_wp2_with fail
        refine (HS.out _).mono ?_
        rintro e w3 ⟨rfl, b3⟩
        have B3 := Lib.hid (B2.out.trans (b3.mono B2.out.size))
        clear b3
        go_wp2_with fail
        refine (name_any s _).mono ?_
        rw [HN.out]
        rintro e w' ⟨rfl, rfl⟩
        go_wp2_with fail
        refine (legal_any f s _).mono ?_
        rw [HL.out]
        rintro e w4 ⟨rfl, b4⟩
        have B4 := Lib.hid (B3.out.trans (b4.mono B3.out.size))
        clear b4
        go_wp2_with fail
        refine (HA.out _).mono ?_
        rintro e w5 ⟨rfl, b5⟩
        have B5 := Lib.hid (B4.out.trans (b5.mono B4.out.size))
        clear b5
        go_wp2
        go_ret
        exact ⟨rfl, B5.out⟩
      · have HL := Lib.hid hl
        clear hl
        go_enter Tryd.func6, Tryd.ntmps6
        go_wp2_with fail
        refine (works_any _).mono ?_
        rintro e w1 ⟨rfl, b1⟩
        have B1 := Lib.hid b1
        clear b1
        go_wp2_with fail
        refine (HR.out _).mono ?_
        rintro e w2 ⟨rfl, b2⟩
        have B2 := Lib.hid (B1.out.trans (b2.mono B1.out.size))
        clear b2
        go_wp2_with fail
        refine (HS.out _).mono ?_
        rintro e w3 ⟨rfl, b3⟩
        have B3 := Lib.hid (B2.out.trans (b3.mono B2.out.size))
        clear b3
        go_wp2_with fail
        refine (name_any s _).mono ?_
        rw [HN.out]
        rintro e w' ⟨rfl, rfl⟩
        go_wp2_with fail
        refine (legal_any f s _).mono ?_
        rw [HL.out]
        rintro e w4 ⟨rfl, b4⟩
        have B4 := Lib.hid (B3.out.trans (b4.mono B3.out.size))
        clear b4
        go_wp2_with fail
        refine (HA.out _).mono ?_
        rintro e w5 ⟨rfl, b5⟩
        have B5 := Lib.hid (B4.out.trans (b5.mono B4.out.size))
        clear b5
        go_wp2
        go_ret
        exact ⟨rfl, B5.out⟩
    · have hm2 : (u.toList == [120, 95, 95]) = true := by rw [← lit3]; exact hm
      cases hl : legalB f s
      · have HL := Lib.hid hl
        clear hl
        go_enter Tryd.func6, Tryd.ntmps6
        go_wp2_with fail
        refine (works_any _).mono ?_
        rintro e w1 ⟨rfl, b1⟩
        have B1 := Lib.hid b1
        clear b1
        go_wp2_with fail
        refine (HR.out _).mono ?_
        rintro e w2 ⟨rfl, b2⟩
        have B2 := Lib.hid (B1.out.trans (b2.mono B1.out.size))
        clear b2
        go_wp2_with fail
        refine (HS.out _).mono ?_
        rintro e w3 ⟨rfl, b3⟩
        have B3 := Lib.hid (B2.out.trans (b3.mono B2.out.size))
        clear b3
        go_wp2_with fail
        refine (name_any s _).mono ?_
        rw [HN.out]
        rintro e w' ⟨rfl, rfl⟩
        go_wp2_with fail
        refine (legal_any f s _).mono ?_
        rw [HL.out]
        rintro e w4 ⟨rfl, b4⟩
        have B4 := Lib.hid (B3.out.trans (b4.mono B3.out.size))
        clear b4
        go_wp2_with fail
        refine (HA.out _).mono ?_
        rintro e w5 ⟨rfl, b5⟩
        have B5 := Lib.hid (B4.out.trans (b5.mono B4.out.size))
        clear b5
        go_wp2
        go_ret
        exact ⟨rfl, B5.out⟩
      · have HL := Lib.hid hl
        clear hl
        go_enter Tryd.func6, Tryd.ntmps6
        go_wp2_with fail
        refine (works_any _).mono ?_
        rintro e w1 ⟨rfl, b1⟩
        have B1 := Lib.hid b1
        clear b1
        go_wp2_with fail
        refine (HR.out _).mono ?_
        rintro e w2 ⟨rfl, b2⟩
        have B2 := Lib.hid (B1.out.trans (b2.mono B1.out.size))
        clear b2
        go_wp2_with fail
        refine (HS.out _).mono ?_
        rintro e w3 ⟨rfl, b3⟩
        have B3 := Lib.hid (B2.out.trans (b3.mono B2.out.size))
        clear b3
        go_wp2_with fail
        refine (name_any s _).mono ?_
        rw [HN.out]
        rintro e w' ⟨rfl, rfl⟩
        go_wp2_with fail
        refine (legal_any f s _).mono ?_
        rw [HL.out]
        rintro e w4 ⟨rfl, b4⟩
        have B4 := Lib.hid (B3.out.trans (b4.mono B3.out.size))
        clear b4
        go_wp2_with fail
        refine (HA.out _).mono ?_
        rintro e w5 ⟨rfl, b5⟩
        have B5 := Lib.hid (B4.out.trans (b5.mono B4.out.size))
        clear b5
        go_wp2
        go_ret
        exact ⟨rfl, B5.out⟩

set_option maxRecDepth 100000 in
set_option maxHeartbeats 1000000 in
theorem reads_4 (f : Int) (s t : ByteArray) (w : World) (hs : ¬ (120 : Int) < (s.size : Int)) (hf : f = 4) (hr : ReadAs f s s t w) : Calls Tryd.prog 6 #[.int .i64 f, .string s] w fun e w' => e = .returned (.bool true) ∧ Below w.heap.size w w' := by
  obtain ⟨r1, r2, hn, r3⟩ := hr
  have HR := Lib.hid r1
  have HS := Lib.hid r2
  have HN := Lib.hid hn
  have hfb : (f == 4) = true := by rw [beq_iff_eq]; exact hf
  have htl : (s.toList == s.toList) = true := tl_self s
  clear r1 r2 r3 hn hf
  by_cases h3 : s.size < 3
  · have h3i : (s.size : Int) < 3 := by omega
    clear h3
    cases hl : legalB f s
    · have HL := Lib.hid hl
      clear hl
      go_enter Tryd.func6, Tryd.ntmps6
      go_wp2_with fail
      refine (works_any _).mono ?_
      rintro e w1 ⟨rfl, b1⟩
      have B1 := Lib.hid b1
      clear b1
      go_wp2_with fail
      refine (HR.out _).mono ?_
      rintro e w2 ⟨rfl, b2⟩
      have B2 := Lib.hid (B1.out.trans (b2.mono B1.out.size))
      clear b2
      go_wp2_with fail
      refine (HS.out _).mono ?_
      rintro e w3 ⟨rfl, b3⟩
      have B3 := Lib.hid (B2.out.trans (b3.mono B2.out.size))
      clear b3
      go_wp2_with fail
      refine (name_any s _).mono ?_
      rw [HN.out]
      rintro e w' ⟨rfl, rfl⟩
      go_wp2_with fail
      refine (legal_any f s _).mono ?_
      rw [HL.out]
      rintro e w4 ⟨rfl, b4⟩
      have B4 := Lib.hid (B3.out.trans (b4.mono B3.out.size))
      clear b4
      go_wp2
      go_ret
      exact ⟨rfl, B4.out⟩
    · have HL := Lib.hid hl
      clear hl
      go_enter Tryd.func6, Tryd.ntmps6
      go_wp2_with fail
      refine (works_any _).mono ?_
      rintro e w1 ⟨rfl, b1⟩
      have B1 := Lib.hid b1
      clear b1
      go_wp2_with fail
      refine (HR.out _).mono ?_
      rintro e w2 ⟨rfl, b2⟩
      have B2 := Lib.hid (B1.out.trans (b2.mono B1.out.size))
      clear b2
      go_wp2_with fail
      refine (HS.out _).mono ?_
      rintro e w3 ⟨rfl, b3⟩
      have B3 := Lib.hid (B2.out.trans (b3.mono B2.out.size))
      clear b3
      go_wp2_with fail
      refine (name_any s _).mono ?_
      rw [HN.out]
      rintro e w' ⟨rfl, rfl⟩
      go_wp2_with fail
      refine (legal_any f s _).mono ?_
      rw [HL.out]
      rintro e w4 ⟨rfl, b4⟩
      have B4 := Lib.hid (B3.out.trans (b4.mono B3.out.size))
      clear b4
      go_wp2
      go_ret
      exact ⟨rfl, B4.out⟩
  · have h3i : (3 : Int) ≤ (s.size : Int) := by omega
    have hsl : ∀ wx : World, (Instr.slice 9 (.string s) none (some (.int .i64 3)) none).run Tryd.prog wx = .ok (.string (s.extract 0 3)) wx := fun wx => run_slice_string_h (P := Tryd.prog) wx 9 s Tryd.underlying9 .i64 3 (by omega) (by omega)
    generalize s.extract 0 3 = u at hsl
    clear h3
    cases hm : (u.toList == ByteArray.toList ⟨#[120, 95, 95]⟩)
    · have hm2 : (u.toList == [120, 95, 95]) = false := by rw [← lit3]; exact hm
      cases hl : legalB f s
      · have HL := Lib.hid hl
        clear hl
        go_enter Tryd.func6, Tryd.ntmps6
        go_wp2_with fail
        refine (works_any _).mono ?_
        rintro e w1 ⟨rfl, b1⟩
        have B1 := Lib.hid b1
        clear b1
        go_wp2_with fail
        refine (HR.out _).mono ?_
        rintro e w2 ⟨rfl, b2⟩
        have B2 := Lib.hid (B1.out.trans (b2.mono B1.out.size))
        clear b2
        go_wp2_with fail
        refine (HS.out _).mono ?_
        rintro e w3 ⟨rfl, b3⟩
        have B3 := Lib.hid (B2.out.trans (b3.mono B2.out.size))
        clear b3
        go_wp2_with fail
        refine (name_any s _).mono ?_
        rw [HN.out]
        rintro e w' ⟨rfl, rfl⟩
        go_wp2_with fail
        refine (legal_any f s _).mono ?_
        rw [HL.out]
        rintro e w4 ⟨rfl, b4⟩
        have B4 := Lib.hid (B3.out.trans (b4.mono B3.out.size))
        clear b4
        go_wp2
        go_ret
        exact ⟨rfl, B4.out⟩
      · have HL := Lib.hid hl
        clear hl
        go_enter Tryd.func6, Tryd.ntmps6
        go_wp2_with fail
        refine (works_any _).mono ?_
        rintro e w1 ⟨rfl, b1⟩
        have B1 := Lib.hid b1
        clear b1
        go_wp2_with fail
        refine (HR.out _).mono ?_
        rintro e w2 ⟨rfl, b2⟩
        have B2 := Lib.hid (B1.out.trans (b2.mono B1.out.size))
        clear b2
        go_wp2_with fail
        refine (HS.out _).mono ?_
        rintro e w3 ⟨rfl, b3⟩
        have B3 := Lib.hid (B2.out.trans (b3.mono B2.out.size))
        clear b3
        go_wp2_with fail
        refine (name_any s _).mono ?_
        rw [HN.out]
        rintro e w' ⟨rfl, rfl⟩
        go_wp2_with fail
        refine (legal_any f s _).mono ?_
        rw [HL.out]
        rintro e w4 ⟨rfl, b4⟩
        have B4 := Lib.hid (B3.out.trans (b4.mono B3.out.size))
        clear b4
        go_wp2
        go_ret
        exact ⟨rfl, B4.out⟩
    · have hm2 : (u.toList == [120, 95, 95]) = true := by rw [← lit3]; exact hm
      cases hl : legalB f s
      · have HL := Lib.hid hl
        clear hl
        go_enter Tryd.func6, Tryd.ntmps6
        go_wp2_with fail
        refine (works_any _).mono ?_
        rintro e w1 ⟨rfl, b1⟩
        have B1 := Lib.hid b1
        clear b1
        go_wp2_with fail
        refine (HR.out _).mono ?_
        rintro e w2 ⟨rfl, b2⟩
        have B2 := Lib.hid (B1.out.trans (b2.mono B1.out.size))
        clear b2
        go_wp2_with fail
        refine (HS.out _).mono ?_
        rintro e w3 ⟨rfl, b3⟩
        have B3 := Lib.hid (B2.out.trans (b3.mono B2.out.size))
        clear b3
        go_wp2_with fail
        refine (name_any s _).mono ?_
        rw [HN.out]
        rintro e w' ⟨rfl, rfl⟩
        go_wp2_with fail
        refine (legal_any f s _).mono ?_
        rw [HL.out]
        rintro e w4 ⟨rfl, b4⟩
        have B4 := Lib.hid (B3.out.trans (b4.mono B3.out.size))
        clear b4
        go_wp2
        go_ret
        exact ⟨rfl, B4.out⟩
      · have HL := Lib.hid hl
        clear hl
        go_enter Tryd.func6, Tryd.ntmps6
        go_wp2_with fail
        refine (works_any _).mono ?_
        rintro e w1 ⟨rfl, b1⟩
        have B1 := Lib.hid b1
        clear b1
        go_wp2_with fail
        refine (HR.out _).mono ?_
        rintro e w2 ⟨rfl, b2⟩
        have B2 := Lib.hid (B1.out.trans (b2.mono B1.out.size))
        clear b2
        go_wp2_with fail
        refine (HS.out _).mono ?_
        rintro e w3 ⟨rfl, b3⟩
        have B3 := Lib.hid (B2.out.trans (b3.mono B2.out.size))
        clear b3
        go_wp2_with fail
        refine (name_any s _).mono ?_
        rw [HN.out]
        rintro e w' ⟨rfl, rfl⟩
        go_wp2_with fail
        refine (legal_any f s _).mono ?_
        rw [HL.out]
        rintro e w4 ⟨rfl, b4⟩
        have B4 := Lib.hid (B3.out.trans (b4.mono B3.out.size))
        clear b4
        go_wp2
        go_ret
        exact ⟨rfl, B4.out⟩

set_option maxRecDepth 100000 in
set_option maxHeartbeats 1000000 in
theorem reads_mn4 (f : Int) (s n t : ByteArray) (w : World) (hs : ¬ (120 : Int) < (s.size : Int)) (hf : f ≠ 4) (hr : ReadAs f s n t w) (hm : mark3 s = true) : Calls Tryd.prog 6 #[.int .i64 f, .string s] w fun e w' => e = .returned (.bool true) ∧ Below w.heap.size w w' := by
  obtain ⟨r1, r2, hn, r3⟩ := hr
  have HR := Lib.hid r1
  have HS := Lib.hid r2
  have HN := Lib.hid hn
  have HA := Lib.hid (r3 hf)
  have hfb : (f == 4) = false := by rw [beq_eq_false_iff_ne]; exact hf
  clear r1 r2 r3 hn hf
  have h3 := mark_size s hm
  have h3i : (3 : Int) ≤ (s.size : Int) := by omega
  rw [mark_ext s h3] at hm
  have hsl : ∀ wx : World, (Instr.slice 9 (.string s) none (some (.int .i64 3)) none).run Tryd.prog wx = .ok (.string (s.extract 0 3)) wx := fun wx => run_slice_string_h (P := Tryd.prog) wx 9 s Tryd.underlying9 .i64 3 (by omega) (by omega)
  generalize s.extract 0 3 = u at hm hsl
  have hm2 : (u.toList == [120, 95, 95]) = true := by rw [← lit3]; exact hm
  clear h3
  cases hl : legalB f s
  · have HL := Lib.hid hl
    clear hl
    go_enter Tryd.func6, Tryd.ntmps6
    go_wp2_with fail
    refine (works_any _).mono ?_
    rintro e w1 ⟨rfl, b1⟩
    have B1 := Lib.hid b1
    clear b1
    go_wp2_with fail
    refine (HR.out _).mono ?_
    rintro e w2 ⟨rfl, b2⟩
    have B2 := Lib.hid (B1.out.trans (b2.mono B1.out.size))
    clear b2
    go_wp2_with fail
    refine (HS.out _).mono ?_
    rintro e w3 ⟨rfl, b3⟩
    have B3 := Lib.hid (B2.out.trans (b3.mono B2.out.size))
    clear b3
    go_wp2_with fail
    refine (name_any n _).mono ?_
    rw [HN.out]
    rintro e w' ⟨rfl, rfl⟩
    go_wp2_with fail
    refine (legal_any f s _).mono ?_
    rw [HL.out]
    rintro e w4 ⟨rfl, b4⟩
    have B4 := Lib.hid (B3.out.trans (b4.mono B3.out.size))
    clear b4
    go_wp2_with fail
    refine (HA.out _).mono ?_
    rintro e w5 ⟨rfl, b5⟩
    have B5 := Lib.hid (B4.out.trans (b5.mono B4.out.size))
    clear b5
    go_wp2
    go_ret
    exact ⟨rfl, B5.out⟩
  · have HL := Lib.hid hl
    clear hl
    go_enter Tryd.func6, Tryd.ntmps6
    go_wp2_with fail
    refine (works_any _).mono ?_
    rintro e w1 ⟨rfl, b1⟩
    have B1 := Lib.hid b1
    clear b1
    go_wp2_with fail
    refine (HR.out _).mono ?_
    rintro e w2 ⟨rfl, b2⟩
    have B2 := Lib.hid (B1.out.trans (b2.mono B1.out.size))
    clear b2
    go_wp2_with fail
    refine (HS.out _).mono ?_
    rintro e w3 ⟨rfl, b3⟩
    have B3 := Lib.hid (B2.out.trans (b3.mono B2.out.size))
    clear b3
    go_wp2_with fail
    refine (name_any n _).mono ?_
    rw [HN.out]
    rintro e w' ⟨rfl, rfl⟩
    go_wp2_with fail
    refine (legal_any f s _).mono ?_
    rw [HL.out]
    rintro e w4 ⟨rfl, b4⟩
    have B4 := Lib.hid (B3.out.trans (b4.mono B3.out.size))
    clear b4
    go_wp2_with fail
    refine (HA.out _).mono ?_
    rintro e w5 ⟨rfl, b5⟩
    have B5 := Lib.hid (B4.out.trans (b5.mono B4.out.size))
    clear b5
    go_wp2
    go_ret
    exact ⟨rfl, B5.out⟩

theorem law_reads (f : Int) (s : ByteArray) (w : World) : Calls Tryd.prog 6 #[.int .i64 f, .string s] w fun e w' => e = .returned (.bool true) ∧ Below w.heap.size w w' := by
  by_cases h1 : (120 : Int) < (s.size : Int)
  · exact reads_big f s w h1
  · by_cases h : (readF f s).2 = 0
    · obtain ⟨n, t, hr, hm, h4⟩ := readAs_of f s w (by omega) h
      by_cases hf : f = 4
      · obtain rfl := h4 hf
        exact reads_4 f _ t w h1 hf hr
      · cases hk : mark3 s
        · obtain rfl := hm hk
          exact reads_n4 f _ t w h1 hf hr
        · exact reads_mn4 f s n t w h1 hf hr hk
    · exact reads_bad f s w h1 h
end Go.Proofs.YtfljnhmpelpdaaaDoor
