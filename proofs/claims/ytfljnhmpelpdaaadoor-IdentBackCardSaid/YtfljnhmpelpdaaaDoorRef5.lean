/- The document's own reading of a spelling, of a token; its own fresh name. -/
import Derived.Test.YtfljnhmpelpdaaaDoorRef4
import Derived.Test.YtfljnhmpelpdaaaDoorRef3U
namespace Go.Proofs.YtfljnhmpelpdaaaDoor
open Go.RowKit
set_option maxRecDepth 100000
set_option maxHeartbeats 1000000

theorem ext_size (s : ByteArray) : (s.extract 3 s.size).data.toList.length = s.size - 3 := by simp
theorem read_A (f : Int) (s T : ByteArray) (hf : fmtB f = true) (hx : hexedB f = true) (h3 : 3 < s.size) (hR : unhexF (s.extract 3 s.size).data.toList = some T.data.toList) (h1 : (spellF f T).2 = 0) (h2 : (spellF f T).1 = s) : readF f s = (T, 0) := by
  have hl := unhexF_len _ _ hR
  rw [ext_size] at hl
  have hTs : T.data.toList.length = T.size := by simp
  have hm : mark3 s = true := by
    rcases (spell_forms f T h1).2.2 with ⟨_, h, _⟩ | ⟨_, _, h, _⟩ | ⟨h, _⟩ | ⟨h, _⟩
    · exfalso
      rw [h2] at h
      rw [← h] at hTs hl
      omega
    · rw [← h2, h]; exact mark_app _
    · exact absurd h (hexed_no4 f hx)
    · exact absurd h (hexed_no4 f hx)
  have hn : nameOf s = some T := by
    unfold nameOf
    rw [if_pos hm, hR]
    rfl
  unfold readF
  rw [hf, hx, fs_is f s T hn h1 h2]
  rfl
theorem read_B (f : Int) (s : ByteArray) (hf : fmtB f = true) (hx : hexedB f = true) (h : ∀ T : ByteArray, 3 < s.size → unhexF (s.extract 3 s.size).data.toList = some T.data.toList → (spellF f T).2 = 0 → (spellF f T).1 = s → False) : readF f s = if legalB f s = true then (s, 0) else (⟨#[]⟩, 4) := by
  unfold readF
  rw [hf, hx]
  by_cases h2 : (fsF f s).2 = true
  · obtain ⟨a, b, c⟩ := fs_ok f s h2
    cases hm : mark3 s
    · have hs := c hm
      rw [hs] at a b
      have hl : legalB f s = true := by
        rcases (spell_forms f s a).2.2 with ⟨_, _, h⟩ | ⟨_, _, h, _⟩ | ⟨h, _⟩ | ⟨h, _⟩
        · exact (h hx).2
        · rw [b] at h
          have := mark_app (⟨(hexL s.data.toList).toArray⟩)
          rw [← h, hm] at this
          cases this
        · exact absurd h (hexed_no4 f hx)
        · exact absurd h (hexed_no4 f hx)
      rw [h2, hl, hs]
      rfl
    · exfalso
      obtain ⟨n, hn⟩ : ∃ n, nameOf s = some n := by
        cases hn : nameOf s with
        | none => unfold fsF at h2; rw [hn] at h2; cases h2
        | some n => exact ⟨n, rfl⟩
      have e : (fsF f s).1 = n := by unfold fsF; rw [hn]
      rw [e] at a b
      unfold nameOf at hn
      rw [if_pos hm] at hn
      obtain ⟨t, ht, hn⟩ := Option.map_eq_some_iff.1 hn
      have ht2 : n.data.toList = t := by rw [← hn]
      by_cases h3 : 3 < s.size
      · exact h n h3 (by rw [ht2]; exact ht) a b
      · have hl := unhexF_len _ _ ht
        rw [ext_size] at hl
        have := (name_size n (spell_forms f n a).1).1
        have hns : n.data.toList.length = n.size := by simp
        rw [ht2] at hns
        omega
  · have h2' : (fsF f s).2 = false := by simpa using h2
    rw [h2']
    rfl

theorem rrd4 (s : ByteArray) (w : World) (hss : s.size ≤ 100000) : Calls Tryd.prog 26 #[.int .i64 4, .string s] w (Two w (readF 4 s)) := by
  rw [show readF 4 s = if nameB s = true then (s, 0) else (⟨#[]⟩, 4) from rfl]
  have HSS := Lib.hid hss
  cases hn : nameB s
  · simp only [Bool.false_eq_true, if_false]
    have HN := Lib.hid hn
    clear hn
    go_enter Tryd.func26, Tryd.ntmps26
    go_wp2_with fail
    refine (known_any 4 _).mono ?_
    rw [show fmtB 4 = true from rfl]
    rintro e w' ⟨rfl, rfl⟩
    go_wp2_with fail
    refine (rname_any s _ HSS.out).mono ?_
    rw [HN.out]
    rintro e w' ⟨rfl, rfl⟩
    go_wp2
    go_ret2
    exact ⟨rfl, Below.refl _ _⟩
  · simp only [if_true]
    have HN := Lib.hid hn
    clear hn
    go_enter Tryd.func26, Tryd.ntmps26
    go_wp2_with fail
    refine (known_any 4 _).mono ?_
    rw [show fmtB 4 = true from rfl]
    rintro e w' ⟨rfl, rfl⟩
    go_wp2_with fail
    refine (rname_any s _ HSS.out).mono ?_
    rw [HN.out]
    rintro e w' ⟨rfl, rfl⟩
    go_wp2
    go_ret2
    exact ⟨rfl, Below.refl _ _⟩
theorem rrd0 (s : ByteArray) (w : World) (hss : s.size ≤ 100000) : Calls Tryd.prog 26 #[.int .i64 0, .string s] w (Two w (readF 0 s)) := by
  rw [show readF 0 s = if nameB s = true then (s, 0) else (⟨#[]⟩, 4) from rfl]
  have HSS := Lib.hid hss
  cases hn : nameB s
  · simp only [Bool.false_eq_true, if_false]
    have HN := Lib.hid hn
    clear hn
    go_enter Tryd.func26, Tryd.ntmps26
    go_wp2_with fail
    refine (known_any 0 _).mono ?_
    rw [show fmtB 0 = true from rfl]
    rintro e w' ⟨rfl, rfl⟩
    go_wp2_with fail
    refine (rname_any s _ HSS.out).mono ?_
    rw [HN.out]
    rintro e w' ⟨rfl, rfl⟩
    go_wp2
    go_ret2
    exact ⟨rfl, Below.refl _ _⟩
  · simp only [if_true]
    have HN := Lib.hid hn
    clear hn
    go_enter Tryd.func26, Tryd.ntmps26
    go_wp2_with fail
    refine (known_any 0 _).mono ?_
    rw [show fmtB 0 = true from rfl]
    rintro e w' ⟨rfl, rfl⟩
    go_wp2_with fail
    refine (rname_any s _ HSS.out).mono ?_
    rw [HN.out]
    rintro e w' ⟨rfl, rfl⟩
    go_wp2
    go_ret2
    exact ⟨rfl, Below.refl _ _⟩
theorem rrd1 (s : ByteArray) (w : World) (hss : s.size ≤ 100000) : Calls Tryd.prog 26 #[.int .i64 1, .string s] w (Two w (readF 1 s)) := by
  rw [show readF 1 s = if nameB s = true then (s, 0) else (⟨#[]⟩, 4) from rfl]
  have HSS := Lib.hid hss
  cases hn : nameB s
  · simp only [Bool.false_eq_true, if_false]
    have HN := Lib.hid hn
    clear hn
    go_enter Tryd.func26, Tryd.ntmps26
    go_wp2_with fail
    refine (known_any 1 _).mono ?_
    rw [show fmtB 1 = true from rfl]
    rintro e w' ⟨rfl, rfl⟩
    go_wp2_with fail
    refine (rname_any s _ HSS.out).mono ?_
    rw [HN.out]
    rintro e w' ⟨rfl, rfl⟩
    go_wp2
    go_ret2
    exact ⟨rfl, Below.refl _ _⟩
  · simp only [if_true]
    have HN := Lib.hid hn
    clear hn
    go_enter Tryd.func26, Tryd.ntmps26
    go_wp2_with fail
    refine (known_any 1 _).mono ?_
    rw [show fmtB 1 = true from rfl]
    rintro e w' ⟨rfl, rfl⟩
    go_wp2_with fail
    refine (rname_any s _ HSS.out).mono ?_
    rw [HN.out]
    rintro e w' ⟨rfl, rfl⟩
    go_wp2
    go_ret2
    exact ⟨rfl, Below.refl _ _⟩
theorem rrs2 (s : ByteArray) (w : World) (hss : s.size ≤ 100000) (h3 : s.size ≤ 3) : Calls Tryd.prog 26 #[.int .i64 2, .string s] w (Two w (readF 2 s)) := by
  rw [read_B 2 s rfl rfl fun T h => absurd h (by omega)]
  have h3i : decide ((3 : Int) < (s.size : Int)) = false := decide_eq_false (by omega)
  have HSS := Lib.hid hss
  clear h3
  cases hl : legalB 2 s
  · simp only [Bool.false_eq_true, if_false]
    have HL := Lib.hid hl
    clear hl
    go_enter Tryd.func26, Tryd.ntmps26
    go_wp2_with fail
    refine (known_any 2 _).mono ?_
    rw [show fmtB 2 = true from rfl]
    rintro e w' ⟨rfl, rfl⟩
    go_wp2_with fail
    refine (rlegal_any 2 s _ HSS.out).mono ?_
    rw [HL.out]
    rintro e w1 ⟨rfl, b1⟩
    have B1 := Lib.hid b1
    clear b1
    go_wp2
    go_ret2
    exact ⟨rfl, B1.out⟩
  · simp only [if_true]
    have HL := Lib.hid hl
    clear hl
    go_enter Tryd.func26, Tryd.ntmps26
    go_wp2_with fail
    refine (known_any 2 _).mono ?_
    rw [show fmtB 2 = true from rfl]
    rintro e w' ⟨rfl, rfl⟩
    go_wp2_with fail
    refine (rlegal_any 2 s _ HSS.out).mono ?_
    rw [HL.out]
    rintro e w1 ⟨rfl, b1⟩
    have B1 := Lib.hid b1
    clear b1
    go_wp2
    go_ret2
    exact ⟨rfl, B1.out⟩
theorem rrb2 (s : ByteArray) (w : World) (hss : s.size ≤ 100000) (h3 : 3 < s.size) : Calls Tryd.prog 26 #[.int .i64 2, .string s] w (Two w (readF 2 s)) := by
  have h3i : (3 : Int) < (s.size : Int) := by omega
  have hsl : ∀ wx : World, (Instr.slice 9 (.string s) (some (.int .i64 3)) none none).run Tryd.prog wx = .ok (.string (s.extract 3 s.size)) wx := fun wx => run_slice_string_l (P := Tryd.prog) wx 9 s Tryd.underlying9 .i64 3 (by omega) (by omega)
  have HSS := Lib.hid hss
  have hes : (s.extract 3 s.size).size ≤ 100000 := by
    have h1 := ext_size s
    have h2 : (s.extract 3 s.size).data.toList.length = (s.extract 3 s.size).size := by simp
    omega
  have HES := Lib.hid hes
  have hun := fun wx => runhex_any (s.extract 3 s.size) wx hes
  have HA := Lib.hid (read_A 2 s)
  have HB := Lib.hid (read_B 2 s rfl rfl)
  have H3 := Lib.hid h3
  obtain ⟨rd, hrd⟩ : ∃ rd, readF 2 s = rd := ⟨_, rfl⟩
  have HRD := Lib.hid hrd
  rw [hrd]
  clear hrd
  generalize s.extract 3 s.size = u at hsl hes HES hun HA HB
  have HUN := Lib.hid hun
  clear hes hun h3
  go_enter Tryd.func26, Tryd.ntmps26
  go_wp2_with fail
  refine (known_any 2 _).mono ?_
  rw [show fmtB 2 = true from rfl]
  rintro e w' ⟨rfl, rfl⟩
  go_wp2_with fail
  refine (HUN.out _).mono ?_
  rintro e w1 ⟨⟨T, b, rfl, hT, hc⟩, b1⟩
  have B1 := Lib.hid b1
  have HT := Lib.hid (Nat.le_trans hT HES.out)
  have HC := Lib.hid hc
  clear b1 hT hc
  go_wp2_with fail
  refine (rspell_any 2 T _ HT.out).mono ?_
  obtain ⟨⟨bk, st⟩, hr⟩ : ∃ r : ByteArray × Int, spellF 2 T = r := ⟨_, rfl⟩
  rw [hr]
  have HR := Lib.hid hr
  clear hr
  rintro e w2 ⟨rfl, b2⟩
  have B2 := Lib.hid (B1.out.trans (b2.mono B1.out.size))
  clear b2
  simp only []
  cases b
  · skip
    have hrB : rd = if legalB 2 s = true then (s, 0) else (⟨#[]⟩, 4) := by
      rw [← HRD.out]
      refine HB.out fun T' _ hR h1 h2 => ?_
      rcases HC.out with ⟨hb, hc⟩ | ⟨hb, hc⟩
      · cases hb
      · rw [hc] at hR; cases hR
    cases hl : legalB 2 s
    · have hrv : rd = (⟨#[]⟩, 4) := by rw [hrB, hl]; rfl
      subst hrv
      have HL := Lib.hid hl
      clear hl hrB
      go_wp2_with fail
      refine (rlegal_any 2 s _ HSS.out).mono ?_
      rw [HL.out]
      rintro e w3 ⟨rfl, b3⟩
      have B3 := Lib.hid (B2.out.trans (b3.mono B2.out.size))
      clear b3
      go_wp2
      go_ret2
      exact ⟨rfl, B3.out⟩
    · have hrv : rd = (s, 0) := by rw [hrB, hl]; rfl
      subst hrv
      have HL := Lib.hid hl
      clear hl hrB
      go_wp2_with fail
      refine (rlegal_any 2 s _ HSS.out).mono ?_
      rw [HL.out]
      rintro e w3 ⟨rfl, b3⟩
      have B3 := Lib.hid (B2.out.trans (b3.mono B2.out.size))
      clear b3
      go_wp2
      go_ret2
      exact ⟨rfl, B3.out⟩
  · cases hst : (st == 0)
    · skip
      have hrB : rd = if legalB 2 s = true then (s, 0) else (⟨#[]⟩, 4) := by
        rw [← HRD.out]
        refine HB.out fun T' _ hR h1 h2 => ?_
        rcases HC.out with ⟨hb, hc⟩ | ⟨hb, hc⟩
        · have e : T = T' := bytes_inj _ _ (Option.some.inj (hc.symm.trans hR))
          subst e
          rw [HR.out] at h1 h2
          simp only at h1 h2
          rw [h1] at hst; cases hst
        · rw [hc] at hR; cases hR
      cases hl : legalB 2 s
      · have hrv : rd = (⟨#[]⟩, 4) := by rw [hrB, hl]; rfl
        subst hrv
        have HL := Lib.hid hl
        clear hl hrB
        go_wp2_with fail
        refine (rlegal_any 2 s _ HSS.out).mono ?_
        rw [HL.out]
        rintro e w3 ⟨rfl, b3⟩
        have B3 := Lib.hid (B2.out.trans (b3.mono B2.out.size))
        clear b3
        go_wp2
        go_ret2
        exact ⟨rfl, B3.out⟩
      · have hrv : rd = (s, 0) := by rw [hrB, hl]; rfl
        subst hrv
        have HL := Lib.hid hl
        clear hl hrB
        go_wp2_with fail
        refine (rlegal_any 2 s _ HSS.out).mono ?_
        rw [HL.out]
        rintro e w3 ⟨rfl, b3⟩
        have B3 := Lib.hid (B2.out.trans (b3.mono B2.out.size))
        clear b3
        go_wp2
        go_ret2
        exact ⟨rfl, B3.out⟩
    · cases hbk : (bk.toList == s.toList)
      · skip
        have hrB : rd = if legalB 2 s = true then (s, 0) else (⟨#[]⟩, 4) := by
          rw [← HRD.out]
          refine HB.out fun T' _ hR h1 h2 => ?_
          rcases HC.out with ⟨hb, hc⟩ | ⟨hb, hc⟩
          · have e : T = T' := bytes_inj _ _ (Option.some.inj (hc.symm.trans hR))
            subst e
            rw [HR.out] at h1 h2
            simp only at h1 h2
            rw [h2, tl_self s] at hbk; cases hbk
          · rw [hc] at hR; cases hR
        cases hl : legalB 2 s
        · have hrv : rd = (⟨#[]⟩, 4) := by rw [hrB, hl]; rfl
          subst hrv
          have HL := Lib.hid hl
          clear hl hrB
          go_wp2_with fail
          refine (rlegal_any 2 s _ HSS.out).mono ?_
          rw [HL.out]
          rintro e w3 ⟨rfl, b3⟩
          have B3 := Lib.hid (B2.out.trans (b3.mono B2.out.size))
          clear b3
          go_wp2
          go_ret2
          exact ⟨rfl, B3.out⟩
        · have hrv : rd = (s, 0) := by rw [hrB, hl]; rfl
          subst hrv
          have HL := Lib.hid hl
          clear hl hrB
          go_wp2_with fail
          refine (rlegal_any 2 s _ HSS.out).mono ?_
          rw [HL.out]
          rintro e w3 ⟨rfl, b3⟩
          have B3 := Lib.hid (B2.out.trans (b3.mono B2.out.size))
          clear b3
          go_wp2
          go_ret2
          exact ⟨rfl, B3.out⟩
      · have hrA : rd = (T, 0) := by
          rw [← HRD.out]
          rcases HC.out with ⟨hb, hc⟩ | ⟨hb, hc⟩
          · refine HA.out T rfl rfl H3.out hc ?_ ?_
            · rw [HR.out]; exact beq_iff_eq.1 hst
            · rw [HR.out]
              exact bytes_inj _ _ (by rw [tl_eq] at hbk; exact beq_iff_eq.1 hbk)
          · cases hb
        subst hrA
        go_wp2
        go_ret2
        exact ⟨rfl, B2.out⟩
theorem rrs3 (s : ByteArray) (w : World) (hss : s.size ≤ 100000) (h3 : s.size ≤ 3) : Calls Tryd.prog 26 #[.int .i64 3, .string s] w (Two w (readF 3 s)) := by
  rw [read_B 3 s rfl rfl fun T h => absurd h (by omega)]
  have h3i : decide ((3 : Int) < (s.size : Int)) = false := decide_eq_false (by omega)
  have HSS := Lib.hid hss
  clear h3
  cases hl : legalB 3 s
  · simp only [Bool.false_eq_true, if_false]
    have HL := Lib.hid hl
    clear hl
    go_enter Tryd.func26, Tryd.ntmps26
    go_wp2_with fail
    refine (known_any 3 _).mono ?_
    rw [show fmtB 3 = true from rfl]
    rintro e w' ⟨rfl, rfl⟩
    go_wp2_with fail
    refine (rlegal_any 3 s _ HSS.out).mono ?_
    rw [HL.out]
    rintro e w1 ⟨rfl, b1⟩
    have B1 := Lib.hid b1
    clear b1
    go_wp2
    go_ret2
    exact ⟨rfl, B1.out⟩
  · simp only [if_true]
    have HL := Lib.hid hl
    clear hl
    go_enter Tryd.func26, Tryd.ntmps26
    go_wp2_with fail
    refine (known_any 3 _).mono ?_
    rw [show fmtB 3 = true from rfl]
    rintro e w' ⟨rfl, rfl⟩
    go_wp2_with fail
    refine (rlegal_any 3 s _ HSS.out).mono ?_
    rw [HL.out]
    rintro e w1 ⟨rfl, b1⟩
    have B1 := Lib.hid b1
    clear b1
    go_wp2
    go_ret2
    exact ⟨rfl, B1.out⟩
theorem rrb3 (s : ByteArray) (w : World) (hss : s.size ≤ 100000) (h3 : 3 < s.size) : Calls Tryd.prog 26 #[.int .i64 3, .string s] w (Two w (readF 3 s)) := by
  have h3i : (3 : Int) < (s.size : Int) := by omega
  have hsl : ∀ wx : World, (Instr.slice 9 (.string s) (some (.int .i64 3)) none none).run Tryd.prog wx = .ok (.string (s.extract 3 s.size)) wx := fun wx => run_slice_string_l (P := Tryd.prog) wx 9 s Tryd.underlying9 .i64 3 (by omega) (by omega)
  have HSS := Lib.hid hss
  have hes : (s.extract 3 s.size).size ≤ 100000 := by
    have h1 := ext_size s
    have h2 : (s.extract 3 s.size).data.toList.length = (s.extract 3 s.size).size := by simp
    omega
  have HES := Lib.hid hes
  have hun := fun wx => runhex_any (s.extract 3 s.size) wx hes
  have HA := Lib.hid (read_A 3 s)
  have HB := Lib.hid (read_B 3 s rfl rfl)
  have H3 := Lib.hid h3
  obtain ⟨rd, hrd⟩ : ∃ rd, readF 3 s = rd := ⟨_, rfl⟩
  have HRD := Lib.hid hrd
  rw [hrd]
  clear hrd
  generalize s.extract 3 s.size = u at hsl hes HES hun HA HB
  have HUN := Lib.hid hun
  clear hes hun h3
  go_enter Tryd.func26, Tryd.ntmps26
  go_wp2_with fail
  refine (known_any 3 _).mono ?_
  rw [show fmtB 3 = true from rfl]
  rintro e w' ⟨rfl, rfl⟩
  go_wp2_with fail
  refine (HUN.out _).mono ?_
  rintro e w1 ⟨⟨T, b, rfl, hT, hc⟩, b1⟩
  have B1 := Lib.hid b1
  have HT := Lib.hid (Nat.le_trans hT HES.out)
  have HC := Lib.hid hc
  clear b1 hT hc
  go_wp2_with fail
  refine (rspell_any 3 T _ HT.out).mono ?_
  obtain ⟨⟨bk, st⟩, hr⟩ : ∃ r : ByteArray × Int, spellF 3 T = r := ⟨_, rfl⟩
  rw [hr]
  have HR := Lib.hid hr
  clear hr
  rintro e w2 ⟨rfl, b2⟩
  have B2 := Lib.hid (B1.out.trans (b2.mono B1.out.size))
  clear b2
  simp only []
  cases b
  · skip
    have hrB : rd = if legalB 3 s = true then (s, 0) else (⟨#[]⟩, 4) := by
      rw [← HRD.out]
      refine HB.out fun T' _ hR h1 h2 => ?_
      rcases HC.out with ⟨hb, hc⟩ | ⟨hb, hc⟩
      · cases hb
      · rw [hc] at hR; cases hR
    cases hl : legalB 3 s
    · have hrv : rd = (⟨#[]⟩, 4) := by rw [hrB, hl]; rfl
      subst hrv
      have HL := Lib.hid hl
      clear hl hrB
      go_wp2_with fail
      refine (rlegal_any 3 s _ HSS.out).mono ?_
      rw [HL.out]
      rintro e w3 ⟨rfl, b3⟩
      have B3 := Lib.hid (B2.out.trans (b3.mono B2.out.size))
      clear b3
      go_wp2
      go_ret2
      exact ⟨rfl, B3.out⟩
    · have hrv : rd = (s, 0) := by rw [hrB, hl]; rfl
      subst hrv
      have HL := Lib.hid hl
      clear hl hrB
      go_wp2_with fail
      refine (rlegal_any 3 s _ HSS.out).mono ?_
      rw [HL.out]
      rintro e w3 ⟨rfl, b3⟩
      have B3 := Lib.hid (B2.out.trans (b3.mono B2.out.size))
      clear b3
      go_wp2
      go_ret2
      exact ⟨rfl, B3.out⟩
  · cases hst : (st == 0)
    · skip
      have hrB : rd = if legalB 3 s = true then (s, 0) else (⟨#[]⟩, 4) := by
        rw [← HRD.out]
        refine HB.out fun T' _ hR h1 h2 => ?_
        rcases HC.out with ⟨hb, hc⟩ | ⟨hb, hc⟩
        · have e : T = T' := bytes_inj _ _ (Option.some.inj (hc.symm.trans hR))
          subst e
          rw [HR.out] at h1 h2
          simp only at h1 h2
          rw [h1] at hst; cases hst
        · rw [hc] at hR; cases hR
      cases hl : legalB 3 s
      · have hrv : rd = (⟨#[]⟩, 4) := by rw [hrB, hl]; rfl
        subst hrv
        have HL := Lib.hid hl
        clear hl hrB
        go_wp2_with fail
        refine (rlegal_any 3 s _ HSS.out).mono ?_
        rw [HL.out]
        rintro e w3 ⟨rfl, b3⟩
        have B3 := Lib.hid (B2.out.trans (b3.mono B2.out.size))
        clear b3
        go_wp2
        go_ret2
        exact ⟨rfl, B3.out⟩
      · have hrv : rd = (s, 0) := by rw [hrB, hl]; rfl
        subst hrv
        have HL := Lib.hid hl
        clear hl hrB
        go_wp2_with fail
        refine (rlegal_any 3 s _ HSS.out).mono ?_
        rw [HL.out]
        rintro e w3 ⟨rfl, b3⟩
        have B3 := Lib.hid (B2.out.trans (b3.mono B2.out.size))
        clear b3
        go_wp2
        go_ret2
        exact ⟨rfl, B3.out⟩
    · cases hbk : (bk.toList == s.toList)
      · skip
        have hrB : rd = if legalB 3 s = true then (s, 0) else (⟨#[]⟩, 4) := by
          rw [← HRD.out]
          refine HB.out fun T' _ hR h1 h2 => ?_
          rcases HC.out with ⟨hb, hc⟩ | ⟨hb, hc⟩
          · have e : T = T' := bytes_inj _ _ (Option.some.inj (hc.symm.trans hR))
            subst e
            rw [HR.out] at h1 h2
            simp only at h1 h2
            rw [h2, tl_self s] at hbk; cases hbk
          · rw [hc] at hR; cases hR
        cases hl : legalB 3 s
        · have hrv : rd = (⟨#[]⟩, 4) := by rw [hrB, hl]; rfl
          subst hrv
          have HL := Lib.hid hl
          clear hl hrB
          go_wp2_with fail
          refine (rlegal_any 3 s _ HSS.out).mono ?_
          rw [HL.out]
          rintro e w3 ⟨rfl, b3⟩
          have B3 := Lib.hid (B2.out.trans (b3.mono B2.out.size))
          clear b3
          go_wp2
          go_ret2
          exact ⟨rfl, B3.out⟩
        · have hrv : rd = (s, 0) := by rw [hrB, hl]; rfl
          subst hrv
          have HL := Lib.hid hl
          clear hl hrB
          go_wp2_with fail
          refine (rlegal_any 3 s _ HSS.out).mono ?_
          rw [HL.out]
          rintro e w3 ⟨rfl, b3⟩
          have B3 := Lib.hid (B2.out.trans (b3.mono B2.out.size))
          clear b3
          go_wp2
          go_ret2
          exact ⟨rfl, B3.out⟩
      · have hrA : rd = (T, 0) := by
          rw [← HRD.out]
          rcases HC.out with ⟨hb, hc⟩ | ⟨hb, hc⟩
          · refine HA.out T rfl rfl H3.out hc ?_ ?_
            · rw [HR.out]; exact beq_iff_eq.1 hst
            · rw [HR.out]
              exact bytes_inj _ _ (by rw [tl_eq] at hbk; exact beq_iff_eq.1 hbk)
          · cases hb
        subst hrA
        go_wp2
        go_ret2
        exact ⟨rfl, B2.out⟩

theorem rread_any (f : Int) (s : ByteArray) (w : World) (hs : s.size ≤ 100000) : Calls Tryd.prog 26 #[.int .i64 f, .string s] w (Two w (readF f s)) := by
  cases hf : fmtB f
  · have hr : readF f s = (⟨#[]⟩, 9) := by unfold readF; rw [hf]; rfl
    rw [hr]
    have HF := Lib.hid hf
    clear hf hr
    go_enter Tryd.func26, Tryd.ntmps26
    go_wp2_with fail
    refine (known_any f _).mono ?_
    rw [HF.out]
    rintro e w' ⟨rfl, rfl⟩
    go_wp2
    go_ret2
    exact ⟨rfl, Below.refl _ _⟩
  · have hfs : f = 0 ∨ f = 1 ∨ f = 2 ∨ f = 3 ∨ f = 4 := by
      unfold fmtB at hf
      simp only [Bool.and_eq_true, decide_eq_true_eq] at hf
      omega
    by_cases h3 : s.size ≤ 3
    · rcases hfs with rfl | rfl | rfl | rfl | rfl
      · exact rrd0 s w hs
      · exact rrd1 s w hs
      · exact rrs2 s w hs h3
      · exact rrs3 s w hs h3
      · exact rrd4 s w hs
    · rcases hfs with rfl | rfl | rfl | rfl | rfl
      · exact rrd0 s w hs
      · exact rrd1 s w hs
      · exact rrb2 s w hs (by omega)
      · exact rrb3 s w hs (by omega)
      · exact rrd4 s w hs
end Go.Proofs.YtfljnhmpelpdaaaDoor
