/- Read: the name that is spelled so; Word: the name that a token is. -/
import Derived.Test.YtfljnhmpelpdaaaDoorUnhex
namespace Go.Proofs.YtfljnhmpelpdaaaDoor
open Go.RowKit

def MK : ByteArray := ⟨#[120, 95, 95]⟩
def cutF (s : ByteArray) : ByteArray × Bool := if mark3 s = true then (s.extract 3 s.size, true) else (s, false)
theorem mark_size (s : ByteArray) (h : mark3 s = true) : 3 ≤ s.size := by
  unfold mark3 Lib.hasPrefix at h
  rw [List.isPrefixOf_iff_prefix] at h
  have := h.length_le
  simpa using this
theorem cut0_any (s : ByteArray) (w : World) : Calls Tryd.prog 68 #[.string s, .string ⟨#[120, 95, 95]⟩] w fun e w' => e = .returned (.tuple #[.string (cutF s).1, .bool (cutF s).2]) ∧ w = w' := by
  unfold cutF
  cases hm : mark3 s
  · have HM := Lib.hid hm
    clear hm
    go_enter Tryd.func68, Tryd.ntmps68
    go_wp2_with fail
    refine (Tryd.stringslite_HasPrefix s ⟨#[120, 95, 95]⟩ _).mono ?_
    rw [show Lib.hasPrefix s.data.toList (ByteArray.data ⟨#[120, 95, 95]⟩).toList = false from HM.out]
    rintro e w' ⟨rfl, rfl⟩
    go_wp2
    go_ret2
    exact ⟨rfl, rfl⟩
  · have hsz := mark_size s hm
    have hsi : (3 : Int) ≤ (s.size : Int) := by omega
    have HM := Lib.hid hm
    clear hm
    go_enter Tryd.func68, Tryd.ntmps68
    go_wp2_with fail
    refine (Tryd.stringslite_HasPrefix s ⟨#[120, 95, 95]⟩ _).mono ?_
    rw [show Lib.hasPrefix s.data.toList (ByteArray.data ⟨#[120, 95, 95]⟩).toList = true from HM.out]
    rintro e w' ⟨rfl, rfl⟩
    have hl : ByteArray.size ⟨#[120, 95, 95]⟩ = 3 := rfl
    go_wp2
    go_ret2
    exact ⟨rfl, rfl⟩
theorem cut_any (s : ByteArray) (w : World) : Calls Tryd.prog 53 #[.string s, .string ⟨#[120, 95, 95]⟩] w fun e w' => e = .returned (.tuple #[.string (cutF s).1, .bool (cutF s).2]) ∧ w = w' := by
  have HC := Lib.hid (cut0_any s)
  generalize cutF s = r at HC
  obtain ⟨a, b⟩ := r
  go_enter Tryd.func53, Tryd.ntmps53
  go_wp2_with fail
  refine (HC.out _).mono ?_
  rintro e w' ⟨rfl, rfl⟩
  go_wp2
  go_ret2
  exact ⟨rfl, rfl⟩

/-- the name of which a text is the spelling -/
def nameOf (s : ByteArray) : Option ByteArray := if mark3 s = true then (unhexF (s.extract 3 s.size).data.toList).map fun t => ⟨t.toArray⟩ else some s
def fsF (f : Int) (s : ByteArray) : ByteArray × Bool :=
  match nameOf s with
  | none => (⟨#[]⟩, false)
  | some n => (n, ((spellF f n).2 == 0) && ((spellF f n).1.toList == s.toList))
theorem unhexF_len : ∀ (l t : List UInt8), unhexF l = some t → l.length = 2 * t.length
  | [], t, h => by simp [unhexF] at h; subst h; rfl
  | [_], t, h => by simp [unhexF] at h
  | a :: b :: l, t, h => by
    rw [unhexF] at h
    split at h
    · cases h
    · obtain ⟨x, hx, rfl⟩ := Option.map_eq_some_iff.1 h
      have := unhexF_len l x hx
      simp; omega

def Named (w : World) (r : ByteArray × Bool) (e : Ending) (w' : World) : Prop := e = .returned (.tuple #[.string r.1, .bool r.2]) ∧ Below w.heap.size w w'

set_option maxRecDepth 100000 in
set_option maxHeartbeats 1000000 in
theorem fs_any (f : Int) (s : ByteArray) (w : World) (hs : s.size ≤ 100000) : Calls Tryd.prog 33 #[.int .i64 f, .string s] w (Named w (fsF f s)) := by
  cases hm : mark3 s
  · have hc : cutF s = (s, false) := by unfold cutF; rw [hm]; rfl
    have hn : nameOf s = some s := by unfold nameOf; rw [hm]; rfl
    have HC := Lib.hid (cut_any s)
    rw [hc] at HC
    have HSP := Lib.hid (fun W => spell_any f s W hs)
    unfold fsF
    rw [hn]
    simp only []
    generalize spellF f s = r at HSP ⊢
    obtain ⟨sp, er⟩ := r
    clear hm hc hn
    go_enter Tryd.func33, Tryd.ntmps33
    go_wp2_with fail
    refine (HC.out _).mono ?_
    rintro e w' ⟨rfl, rfl⟩
    go_wp2_with fail
    refine (HSP.out _).mono ?_
    rintro e w2 ⟨rfl, b2⟩
    have B2 := Lib.hid ((Below.refl _ _).trans (b2.mono (Nat.le_refl _)))
    clear b2
    cases he : (er == 0)
    · have HV := Lib.hid (show (er == 0 && sp.toList == s.toList) = false by rw [he]; rfl)
      go_wp2
      go_ret2
      rw [HV.out]
      exact ⟨rfl, B2.out⟩
    · cases hq : (sp.toList == s.toList)
      · have HV := Lib.hid (show (er == 0 && sp.toList == s.toList) = false by rw [he, hq]; rfl)
        go_wp2
        go_ret2
        rw [HV.out]
        exact ⟨rfl, B2.out⟩
      · have HV := Lib.hid (show (er == 0 && sp.toList == s.toList) = true by rw [he, hq]; rfl)
        go_wp2
        go_ret2
        rw [HV.out]
        exact ⟨rfl, B2.out⟩
  · have hc : cutF s = (s.extract 3 s.size, true) := by unfold cutF; rw [hm]; rfl
    have HC := Lib.hid (cut_any s)
    rw [hc] at HC
    have hsz := mark_size s hm
    have hes : (s.extract 3 s.size).size ≤ 100000 := by rw [ByteArray.size_extract]; omega
    have HU := Lib.hid (fun W => fromHex_any (s.extract 3 s.size) W hes)
    have hn : nameOf s = (unhexF (s.extract 3 s.size).data.toList).map fun t => ⟨t.toArray⟩ := by unfold nameOf; rw [hm]; rfl
    have hlen := unhexF_len (s.extract 3 s.size).data.toList
    generalize hu : unhexF (s.extract 3 s.size).data.toList = R at HU hn hlen
    unfold fsF
    rw [hn]
    have hle : (s.extract 3 s.size).data.toList.length ≤ 100000 := by simp; omega
    cases R with
    | none =>
      clear hm hc hn hu hlen hle hes
      simp only [Option.map_none]
      go_enter Tryd.func33, Tryd.ntmps33
      go_wp2_with fail
      refine (HC.out _).mono ?_
      rintro e w' ⟨rfl, rfl⟩
      go_wp2_with fail
      refine (HU.out _).mono ?_
      rintro e w1 ⟨rfl, b1⟩
      have B1 := Lib.hid b1
      clear b1
      go_wp2
      go_ret2
      exact ⟨rfl, B1.out⟩
    | some t =>
      have hts : ByteArray.size ⟨t.toArray⟩ ≤ 100000 := by
        have := hlen t rfl
        show t.toArray.size ≤ _
        simp; omega
      have HSP := Lib.hid (fun W => spell_any f ⟨t.toArray⟩ W hts)
      simp only [Option.map_some]
      generalize spellF f ⟨t.toArray⟩ = r at HSP ⊢
      obtain ⟨sp, er⟩ := r
      clear hm hc hn hu hlen hle hes hts
      go_enter Tryd.func33, Tryd.ntmps33
      go_wp2_with fail
      refine (HC.out _).mono ?_
      rintro e w' ⟨rfl, rfl⟩
      go_wp2_with fail
      refine (HU.out _).mono ?_
      rintro e w1 ⟨rfl, b1⟩
      have B1 := Lib.hid b1
      clear b1
      go_wp2_with fail
      refine (HSP.out _).mono ?_
      rintro e w2 ⟨rfl, b2⟩
      have B2 := Lib.hid (B1.out.trans (b2.mono B1.out.size))
      clear b2
      cases he : (er == 0)
      · have HV := Lib.hid (show (er == 0 && sp.toList == s.toList) = false by rw [he]; rfl)
        go_wp2
        go_ret2
        rw [HV.out]
        exact ⟨rfl, B2.out⟩
      · cases hq : (sp.toList == s.toList)
        · have HV := Lib.hid (show (er == 0 && sp.toList == s.toList) = false by rw [he, hq]; rfl)
          go_wp2
          go_ret2
          rw [HV.out]
          exact ⟨rfl, B2.out⟩
        · have HV := Lib.hid (show (er == 0 && sp.toList == s.toList) = true by rw [he, hq]; rfl)
          go_wp2
          go_ret2
          rw [HV.out]
          exact ⟨rfl, B2.out⟩

def readF (f : Int) (s : ByteArray) : ByteArray × Int :=
  if fmtB f = false then (⟨#[]⟩, 9)
  else if hexedB f = true then (if (fsF f s).2 = true then ((fsF f s).1, 0) else if legalB f s = true then (s, 0) else (⟨#[]⟩, 4))
  else if nameB s = true then (s, 0) else (⟨#[]⟩, 4)
theorem legal_name (f : Int) (s : ByteArray) (h : legalB f s = true) : nameB s = true := by
  unfold legalB at h
  simp only [Bool.and_eq_true] at h
  exact h.2.1

set_option maxRecDepth 100000 in
set_option maxHeartbeats 1000000 in
theorem read_any (f : Int) (s : ByteArray) (w : World) (hs : s.size ≤ 100000) : Calls Tryd.prog 16 #[.int .i64 f, .string s] w (Two w (readF f s)) := by
  unfold readF
  cases hf : fmtB f
  · simp only [if_true]
    have HF := Lib.hid hf
    clear hf
    go_enter Tryd.func16, Tryd.ntmps16
    go_wp2_with fail
    refine (fmt_any f _).mono ?_
    rw [HF.out]
    rintro e w' ⟨rfl, rfl⟩
    go_wp2
    go_ret2
    exact ⟨rfl, Below.refl _ _⟩
  · cases hx : hexedB f
    · simp only [Bool.true_eq_false, Bool.false_eq_true, if_false]
      cases hn : nameB s
      · simp only [Bool.false_eq_true, if_false]
        have HF := Lib.hid hf
        have HX := Lib.hid hx
        have HN := Lib.hid hn
        clear hf hx hn
        go_enter Tryd.func16, Tryd.ntmps16
        go_wp2_with fail
        refine (fmt_any f _).mono ?_
        rw [HF.out]
        rintro e w' ⟨rfl, rfl⟩
        go_wp2_with fail
        refine (hexed_any f _).mono ?_
        rw [HX.out]
        rintro e w' ⟨rfl, rfl⟩
        go_wp2_with fail
        refine (name_any s _).mono ?_
        rw [HN.out]
        rintro e w' ⟨rfl, rfl⟩
        go_wp2
        go_ret2
        exact ⟨rfl, Below.refl _ _⟩
      · simp only [if_true]
        have HF := Lib.hid hf
        have HX := Lib.hid hx
        have HN := Lib.hid hn
        clear hf hx hn
        go_enter Tryd.func16, Tryd.ntmps16
        go_wp2_with fail
        refine (fmt_any f _).mono ?_
        rw [HF.out]
        rintro e w' ⟨rfl, rfl⟩
        go_wp2_with fail
        refine (hexed_any f _).mono ?_
        rw [HX.out]
        rintro e w' ⟨rfl, rfl⟩
        go_wp2_with fail
        refine (name_any s _).mono ?_
        rw [HN.out]
        rintro e w' ⟨rfl, rfl⟩
        go_wp2
        go_ret2
        exact ⟨rfl, Below.refl _ _⟩
    · simp only [Bool.true_eq_false, if_false, if_true]
      have HF := Lib.hid hf
      have HX := Lib.hid hx
      clear hf hx
      have HFS := Lib.hid (fun W => fs_any f s W hs)
      generalize fsF f s = r at HFS ⊢
      obtain ⟨nm, ok⟩ := r
      cases ok
      · simp only [Bool.false_eq_true, if_false]
        cases hl : legalB f s
        · simp only [Bool.false_eq_true, if_false]
          have HL := Lib.hid hl
          clear hl
          go_enter Tryd.func16, Tryd.ntmps16
          go_wp2_with fail
          refine (fmt_any f _).mono ?_
          rw [HF.out]
          rintro e w' ⟨rfl, rfl⟩
          go_wp2_with fail
          refine (hexed_any f _).mono ?_
          rw [HX.out]
          rintro e w' ⟨rfl, rfl⟩
          go_wp2_with fail
          refine (HFS.out _).mono ?_
          rintro e w1 ⟨rfl, b1⟩
          have B1 := Lib.hid b1
          clear b1
          go_wp2_with fail
          refine (legal_any f s _).mono ?_
          rw [HL.out]
          rintro e w2 ⟨rfl, b2⟩
          have B2 := Lib.hid (B1.out.trans (b2.mono B1.out.size))
          clear b2
          go_wp2
          go_ret2
          exact ⟨rfl, B2.out⟩
        · simp only [if_true]
          have HN := Lib.hid (legal_name f s hl)
          have HL := Lib.hid hl
          clear hl
          go_enter Tryd.func16, Tryd.ntmps16
          go_wp2_with fail
          refine (fmt_any f _).mono ?_
          rw [HF.out]
          rintro e w' ⟨rfl, rfl⟩
          go_wp2_with fail
          refine (hexed_any f _).mono ?_
          rw [HX.out]
          rintro e w' ⟨rfl, rfl⟩
          go_wp2_with fail
          refine (HFS.out _).mono ?_
          rintro e w1 ⟨rfl, b1⟩
          have B1 := Lib.hid b1
          clear b1
          go_wp2_with fail
          refine (legal_any f s _).mono ?_
          rw [HL.out]
          rintro e w2 ⟨rfl, b2⟩
          have B2 := Lib.hid (B1.out.trans (b2.mono B1.out.size))
          clear b2
          go_wp2_with fail
          refine (name_any s _).mono ?_
          rw [HN.out]
          rintro e w' ⟨rfl, rfl⟩
          go_wp2
          go_ret2
          exact ⟨rfl, B2.out⟩
      · simp only [if_true]
        go_enter Tryd.func16, Tryd.ntmps16
        go_wp2_with fail
        refine (fmt_any f _).mono ?_
        rw [HF.out]
        rintro e w' ⟨rfl, rfl⟩
        go_wp2_with fail
        refine (hexed_any f _).mono ?_
        rw [HX.out]
        rintro e w' ⟨rfl, rfl⟩
        go_wp2_with fail
        refine (HFS.out _).mono ?_
        rintro e w1 ⟨rfl, b1⟩
        have B1 := Lib.hid b1
        clear b1
        go_wp2
        go_ret2
        exact ⟨rfl, B1.out⟩
end Go.Proofs.YtfljnhmpelpdaaaDoor
