/- Spell: how a format spells a name. -/
import Derived.Test.YtfljnhmpelpdaaaDoorHex
namespace Go.Proofs.YtfljnhmpelpdaaaDoor
open Go.RowKit

def mark3 (s : ByteArray) : Bool := Lib.hasPrefix s.data.toList [120, 95, 95]
def spellF (f : Int) (s : ByteArray) : ByteArray × Int :=
  if nameB s = false then (⟨#[]⟩, 4) else if fmtB f = false then (⟨#[]⟩, 9)
  else if f = 4 then (if legalB f s = true then (s, 0) else (⟨#[92]⟩ ++ s ++ ⟨#[32]⟩, 0))
  else if (hexedB f && (!legalB f s || mark3 s)) = true then (⟨#[120, 95, 95]⟩ ++ ⟨(hexL s.data.toList).toArray⟩, 0) else (s, 0)
/-- two results: a text, and a number -/
def Two (w : World) (r : ByteArray × Int) (e : Ending) (w' : World) : Prop := e = .returned (.tuple #[.string r.1, .int .i64 r.2]) ∧ Below w.heap.size w w'

set_option maxRecDepth 100000 in
set_option maxHeartbeats 1000000 in
theorem spell_any (f : Int) (s : ByteArray) (w : World) (hss : s.size ≤ 100000) : Calls Tryd.prog 15 #[.int .i64 f, .string s] w (Two w (spellF f s)) := by
  cases hn : nameB s
  · have hr : spellF f s = (⟨#[]⟩, 4) := by unfold spellF; rw [hn]; rfl
    rw [hr]
    have HN := Lib.hid hn
    clear hn hr
    go_enter Tryd.func15, Tryd.ntmps15
    go_wp2_with fail
    refine (name_any s _).mono ?_
    rw [HN.out]
    rintro e w' ⟨rfl, rfl⟩
    go_wp2
    go_ret2
    exact ⟨rfl, Below.refl _ _⟩
  · have hsz := name_size s hn
    have HN := Lib.hid hn
    cases hf : fmtB f
    · have hr : spellF f s = (⟨#[]⟩, 9) := by unfold spellF; rw [hn, hf]; rfl
      rw [hr]
      have HF := Lib.hid hf
      clear hn hr hf
      go_enter Tryd.func15, Tryd.ntmps15
      go_wp2_with fail
      refine (name_any s _).mono ?_
      rw [HN.out]
      rintro e w' ⟨rfl, rfl⟩
      go_wp2_with fail
      refine (fmt_any f _).mono ?_
      rw [HF.out]
      rintro e w' ⟨rfl, rfl⟩
      go_wp2
      go_ret2
      exact ⟨rfl, Below.refl _ _⟩
    · have hfs : f = 0 ∨ f = 1 ∨ f = 2 ∨ f = 3 ∨ f = 4 := by
        unfold fmtB at hf
        simp only [Bool.and_eq_true, decide_eq_true_eq] at hf
        omega
      rcases hfs with rfl | rfl | rfl | rfl | rfl
      · have hr : spellF 0 s = (s, 0) := by unfold spellF; rw [hn]; rfl
        rw [hr]
        have HF := Lib.hid hf
        clear hn hr hf
        go_enter Tryd.func15, Tryd.ntmps15
        go_wp2_with fail
        refine (name_any s _).mono ?_
        rw [HN.out]
        rintro e w' ⟨rfl, rfl⟩
        go_wp2_with fail
        refine (fmt_any 0 _).mono ?_
        rw [HF.out]
        rintro e w' ⟨rfl, rfl⟩
        go_wp2_with fail
        refine (hexed_any 0 _).mono ?_
        rw [show hexedB 0 = false from rfl]
        rintro e w' ⟨rfl, rfl⟩
        go_wp2
        go_ret2
        exact ⟨rfl, Below.refl _ _⟩
      · have hr : spellF 1 s = (s, 0) := by unfold spellF; rw [hn]; rfl
        rw [hr]
        have HF := Lib.hid hf
        clear hn hr hf
        go_enter Tryd.func15, Tryd.ntmps15
        go_wp2_with fail
        refine (name_any s _).mono ?_
        rw [HN.out]
        rintro e w' ⟨rfl, rfl⟩
        go_wp2_with fail
        refine (fmt_any 1 _).mono ?_
        rw [HF.out]
        rintro e w' ⟨rfl, rfl⟩
        go_wp2_with fail
        refine (hexed_any 1 _).mono ?_
        rw [show hexedB 1 = false from rfl]
        rintro e w' ⟨rfl, rfl⟩
        go_wp2
        go_ret2
        exact ⟨rfl, Below.refl _ _⟩
      · cases hl : legalB 2 s
        · have hr : spellF 2 s = (⟨#[120, 95, 95]⟩ ++ ⟨(hexL s.data.toList).toArray⟩, 0) := by
            unfold spellF
            rw [hn, hl]
            rfl
          rw [hr]
          have HF := Lib.hid hf
          have HL := Lib.hid hl
          clear hn hr hf hl
          go_enter Tryd.func15, Tryd.ntmps15
          go_wp2_with fail
          refine (name_any s _).mono ?_
          rw [HN.out]
          rintro e w' ⟨rfl, rfl⟩
          go_wp2_with fail
          refine (fmt_any 2 _).mono ?_
          rw [HF.out]
          rintro e w' ⟨rfl, rfl⟩
          go_wp2_with fail
          refine (hexed_any 2 _).mono ?_
          rw [show hexedB 2 = true from rfl]
          rintro e w' ⟨rfl, rfl⟩
          go_wp2_with fail
          refine (legal_any 2 s _).mono ?_
          rw [HL.out]
          rintro e w1 ⟨rfl, b1⟩
          have B1 := Lib.hid b1
          clear b1
          go_wp2_with fail
          refine (toHex_any s _ hsz.1 hsz.2).mono ?_
          rintro e w2 ⟨rfl, b2⟩
          have hl := hexL_len s.data.toList
          have hl2 : (hexL s.data.toList).length ≤ 80 := by rw [hl]; simp; omega
          have HH := Lib.hid (B1.out.trans (b2.mono B1.out.size))
          clear b2 hl
          generalize ht : hexL s.data.toList = t at hl2
          have HT := Lib.hid ht
          clear ht
          go_wp2
          go_ret2
          rw [HT.out]
          exact ⟨rfl, HH.out⟩
        · cases hm : mark3 s
          · have hr : spellF 2 s = (s, 0) := by
              unfold spellF
              rw [hn, hl, hm]
              rfl
            rw [hr]
            have HF := Lib.hid hf
            have HL := Lib.hid hl
            have HM := Lib.hid hm
            clear hn hr hf hl hm
            go_enter Tryd.func15, Tryd.ntmps15
            go_wp2_with fail
            refine (name_any s _).mono ?_
            rw [HN.out]
            rintro e w' ⟨rfl, rfl⟩
            go_wp2_with fail
            refine (fmt_any 2 _).mono ?_
            rw [HF.out]
            rintro e w' ⟨rfl, rfl⟩
            go_wp2_with fail
            refine (hexed_any 2 _).mono ?_
            rw [show hexedB 2 = true from rfl]
            rintro e w' ⟨rfl, rfl⟩
            go_wp2_with fail
            refine (legal_any 2 s _).mono ?_
            rw [HL.out]
            rintro e w1 ⟨rfl, b1⟩
            have B1 := Lib.hid b1
            clear b1
            go_wp2_with fail
            refine (Tryd.strings_HasPrefix s ⟨#[120, 95, 95]⟩ _).mono ?_
            rw [show Lib.hasPrefix s.data.toList (ByteArray.data ⟨#[120, 95, 95]⟩).toList = false from HM.out]
            rintro e w' ⟨rfl, rfl⟩
            go_wp2
            go_ret2
            exact ⟨rfl, B1.out⟩
          · have hr : spellF 2 s = (⟨#[120, 95, 95]⟩ ++ ⟨(hexL s.data.toList).toArray⟩, 0) := by
              unfold spellF
              rw [hn, hl, hm]
              rfl
            rw [hr]
            have HF := Lib.hid hf
            have HL := Lib.hid hl
            have HM := Lib.hid hm
            clear hn hr hf hl hm
            go_enter Tryd.func15, Tryd.ntmps15
            go_wp2_with fail
            refine (name_any s _).mono ?_
            rw [HN.out]
            rintro e w' ⟨rfl, rfl⟩
            go_wp2_with fail
            refine (fmt_any 2 _).mono ?_
            rw [HF.out]
            rintro e w' ⟨rfl, rfl⟩
            go_wp2_with fail
            refine (hexed_any 2 _).mono ?_
            rw [show hexedB 2 = true from rfl]
            rintro e w' ⟨rfl, rfl⟩
            go_wp2_with fail
            refine (legal_any 2 s _).mono ?_
            rw [HL.out]
            rintro e w1 ⟨rfl, b1⟩
            have B1 := Lib.hid b1
            clear b1
            go_wp2_with fail
            refine (Tryd.strings_HasPrefix s ⟨#[120, 95, 95]⟩ _).mono ?_
            rw [show Lib.hasPrefix s.data.toList (ByteArray.data ⟨#[120, 95, 95]⟩).toList = true from HM.out]
            rintro e w' ⟨rfl, rfl⟩
            go_wp2_with fail
            refine (toHex_any s _ hsz.1 hsz.2).mono ?_
            rintro e w2 ⟨rfl, b2⟩
            have hl := hexL_len s.data.toList
            have hl2 : (hexL s.data.toList).length ≤ 80 := by rw [hl]; simp; omega
            have HH := Lib.hid (B1.out.trans (b2.mono B1.out.size))
            clear b2 hl
            generalize ht : hexL s.data.toList = t at hl2
            have HT := Lib.hid ht
            clear ht
            go_wp2
            go_ret2
            rw [HT.out]
            exact ⟨rfl, HH.out⟩
      · cases hl : legalB 3 s
        · have hr : spellF 3 s = (⟨#[120, 95, 95]⟩ ++ ⟨(hexL s.data.toList).toArray⟩, 0) := by
            unfold spellF
            rw [hn, hl]
            rfl
          rw [hr]
          have HF := Lib.hid hf
          have HL := Lib.hid hl
          clear hn hr hf hl
          go_enter Tryd.func15, Tryd.ntmps15
          go_wp2_with fail
          refine (name_any s _).mono ?_
          rw [HN.out]
          rintro e w' ⟨rfl, rfl⟩
          go_wp2_with fail
          refine (fmt_any 3 _).mono ?_
          rw [HF.out]
          rintro e w' ⟨rfl, rfl⟩
          go_wp2_with fail
          refine (hexed_any 3 _).mono ?_
          rw [show hexedB 3 = true from rfl]
          rintro e w' ⟨rfl, rfl⟩
          go_wp2_with fail
          refine (legal_any 3 s _).mono ?_
          rw [HL.out]
          rintro e w1 ⟨rfl, b1⟩
          have B1 := Lib.hid b1
          clear b1
          go_wp2_with fail
          refine (toHex_any s _ hsz.1 hsz.2).mono ?_
          rintro e w2 ⟨rfl, b2⟩
          have hl := hexL_len s.data.toList
          have hl2 : (hexL s.data.toList).length ≤ 80 := by rw [hl]; simp; omega
          have HH := Lib.hid (B1.out.trans (b2.mono B1.out.size))
          clear b2 hl
          generalize ht : hexL s.data.toList = t at hl2
          have HT := Lib.hid ht
          clear ht
          go_wp2
          go_ret2
          rw [HT.out]
          exact ⟨rfl, HH.out⟩
        · cases hm : mark3 s
          · have hr : spellF 3 s = (s, 0) := by
              unfold spellF
              rw [hn, hl, hm]
              rfl
            rw [hr]
            have HF := Lib.hid hf
            have HL := Lib.hid hl
            have HM := Lib.hid hm
            clear hn hr hf hl hm
            go_enter Tryd.func15, Tryd.ntmps15
            go_wp2_with fail
            refine (name_any s _).mono ?_
            rw [HN.out]
            rintro e w' ⟨rfl, rfl⟩
            go_wp2_with fail
            refine (fmt_any 3 _).mono ?_
            rw [HF.out]
            rintro e w' ⟨rfl, rfl⟩
            go_wp2_with fail
            refine (hexed_any 3 _).mono ?_
            rw [show hexedB 3 = true from rfl]
            rintro e w' ⟨rfl, rfl⟩
            go_wp2_with fail
            refine (legal_any 3 s _).mono ?_
            rw [HL.out]
            rintro e w1 ⟨rfl, b1⟩
            have B1 := Lib.hid b1
            clear b1
            go_wp2_with fail
            refine (Tryd.strings_HasPrefix s ⟨#[120, 95, 95]⟩ _).mono ?_
            rw [show Lib.hasPrefix s.data.toList (ByteArray.data ⟨#[120, 95, 95]⟩).toList = false from HM.out]
            rintro e w' ⟨rfl, rfl⟩
            go_wp2
            go_ret2
            exact ⟨rfl, B1.out⟩
          · have hr : spellF 3 s = (⟨#[120, 95, 95]⟩ ++ ⟨(hexL s.data.toList).toArray⟩, 0) := by
              unfold spellF
              rw [hn, hl, hm]
              rfl
            rw [hr]
            have HF := Lib.hid hf
            have HL := Lib.hid hl
            have HM := Lib.hid hm
            clear hn hr hf hl hm
            go_enter Tryd.func15, Tryd.ntmps15
            go_wp2_with fail
            refine (name_any s _).mono ?_
            rw [HN.out]
            rintro e w' ⟨rfl, rfl⟩
            go_wp2_with fail
            refine (fmt_any 3 _).mono ?_
            rw [HF.out]
            rintro e w' ⟨rfl, rfl⟩
            go_wp2_with fail
            refine (hexed_any 3 _).mono ?_
            rw [show hexedB 3 = true from rfl]
            rintro e w' ⟨rfl, rfl⟩
            go_wp2_with fail
            refine (legal_any 3 s _).mono ?_
            rw [HL.out]
            rintro e w1 ⟨rfl, b1⟩
            have B1 := Lib.hid b1
            clear b1
            go_wp2_with fail
            refine (Tryd.strings_HasPrefix s ⟨#[120, 95, 95]⟩ _).mono ?_
            rw [show Lib.hasPrefix s.data.toList (ByteArray.data ⟨#[120, 95, 95]⟩).toList = true from HM.out]
            rintro e w' ⟨rfl, rfl⟩
            go_wp2_with fail
            refine (toHex_any s _ hsz.1 hsz.2).mono ?_
            rintro e w2 ⟨rfl, b2⟩
            have hl := hexL_len s.data.toList
            have hl2 : (hexL s.data.toList).length ≤ 80 := by rw [hl]; simp; omega
            have HH := Lib.hid (B1.out.trans (b2.mono B1.out.size))
            clear b2 hl
            generalize ht : hexL s.data.toList = t at hl2
            have HT := Lib.hid ht
            clear ht
            go_wp2
            go_ret2
            rw [HT.out]
            exact ⟨rfl, HH.out⟩
      · cases hl : legalB 4 s
        · have hr : spellF 4 s = (⟨#[92]⟩ ++ s ++ ⟨#[32]⟩, 0) := by
            unfold spellF
            rw [hn, hl]
            rfl
          rw [hr]
          have HF := Lib.hid hf
          have HL := Lib.hid hl
          clear hn hr hf hl
          go_enter Tryd.func15, Tryd.ntmps15
          go_wp2_with fail
          refine (name_any s _).mono ?_
          rw [HN.out]
          rintro e w' ⟨rfl, rfl⟩
          go_wp2_with fail
          refine (fmt_any 4 _).mono ?_
          rw [HF.out]
          rintro e w' ⟨rfl, rfl⟩
          go_wp2_with fail
          refine (legal_any 4 s _).mono ?_
          rw [HL.out]
          rintro e w1 ⟨rfl, b1⟩
          have B1 := Lib.hid b1
          clear b1
          go_wp2
          go_ret2
          exact ⟨rfl, B1.out⟩
        · have hr : spellF 4 s = (s, 0) := by
            unfold spellF
            rw [hn, hl]
            rfl
          rw [hr]
          have HF := Lib.hid hf
          have HL := Lib.hid hl
          clear hn hr hf hl
          go_enter Tryd.func15, Tryd.ntmps15
          go_wp2_with fail
          refine (name_any s _).mono ?_
          rw [HN.out]
          rintro e w' ⟨rfl, rfl⟩
          go_wp2_with fail
          refine (fmt_any 4 _).mono ?_
          rw [HF.out]
          rintro e w' ⟨rfl, rfl⟩
          go_wp2_with fail
          refine (legal_any 4 s _).mono ?_
          rw [HL.out]
          rintro e w1 ⟨rfl, b1⟩
          have B1 := Lib.hid b1
          clear b1
          go_wp2
          go_ret2
          exact ⟨rfl, B1.out⟩
end Go.Proofs.YtfljnhmpelpdaaaDoor
