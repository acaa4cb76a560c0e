/- IdentBack: what is spelled is one word of its format, and reads back as the name. -/
import Derived.Test.YtfljnhmpelpdaaaDoorBack
namespace Go.Proofs.YtfljnhmpelpdaaaDoor
open Go.RowKit
set_option maxRecDepth 100000

/-- one word of a format -/
def One (f : Int) (s : ByteArray) (x : Ti) : Prop := wordF f x = (s, 0) ∧ x.t.size ≤ 100000
theorem blif_one (s : ByteArray) (hn : nameB s = true) : ∃ (t : ByteArray) (x y : Ti), spellF 2 s = (t, 0) ∧ t.size ≤ 100000 ∧ (Tok.toksB t).map toI = [x, y] ∧ One 2 s x := by
  have h0 := spell_ok 2 s hn rfl
  have hz := spell_size 2 s
  have hs := name_size s hn
  refine ⟨(spellF 2 s).1, ⟨0, (spellF 2 s).1, 0⟩, ⟨3, ⟨#[]⟩, (spellF 2 s).1.size⟩, by rw [← h0], by omega, ?_, ?_, by simp only []; omega⟩
  · rw [toksB_word _ (spell_pos 2 s hn rfl) (spell2_all s hn)]; rfl
  · exact read_spell 2 s hn rfl rfl
theorem bench_one (s : ByteArray) (hn : nameB s = true) : ∃ (t : ByteArray) (x : Tok.Tk), spellF 3 s = (t, 0) ∧ t.size ≤ 100000 ∧ Tok.toksN t = .inl [x] ∧ One 3 s (toI x) := by
  have h0 := spell_ok 3 s hn rfl
  have hz := spell_size 3 s
  have hs := name_size s hn
  refine ⟨(spellF 3 s).1, ⟨0, (spellF 3 s).1, 0⟩, by rw [← h0], by omega, toksN_word _ (spell_pos 3 s hn rfl) (spell3_all s hn), ?_, by show (spellF 3 s).1.size ≤ _; omega⟩
  exact read_spell 3 s hn rfl rfl
theorem verilog_one (s : ByteArray) (hn : nameB s = true) : ∃ (t : ByteArray) (x : Tok.Tk), spellF 4 s = (t, 0) ∧ t.size ≤ 100000 ∧ Tok.toksV t = .inl [x] ∧ One 4 s (toI x) := by
  have h0 := spell_ok 4 s hn rfl
  have hz := spell_size 4 s
  have hs := name_size s hn
  obtain ⟨x, h1, h2, h3⟩ := verilog_back s hn
  exact ⟨(spellF 4 s).1, x, by rw [← h0], by omega, h1, h2, h3⟩

set_option maxHeartbeats 2000000 in
theorem law_back (s : ByteArray) (w : World) (hX : Tok.HX w) : Calls Tryd.prog 4 #[.string s] w fun e w' => e = .returned (.bool true) ∧ Below w.heap.size w w' := by
  have HXX := Lib.hid hX
  clear hX
  cases hn : nameB s
  · have HN := Lib.hid hn
    clear hn
    go_enter Tryd.func4, Tryd.ntmps4
    go_wp2_with fail
    refine (works_any _).mono ?_
    rintro e w1 ⟨rfl, b1⟩
    have B1 := Lib.hid b1
    clear b1
    go_wp2_with fail
    refine (name_any s _).mono ?_
    rw [HN.out]
    rintro e w' ⟨rfl, rfl⟩
    go_wp2
    go_ret
    exact ⟨rfl, B1.out⟩
  · have HN := Lib.hid hn
    have HS := Lib.hid (show s.size ≤ 100000 by have := name_size s hn; omega)
    obtain ⟨t2, x2, y2, s2, z2, k2, o2⟩ := blif_one s hn
    obtain ⟨t3, x3, s3, z3, k3, o3⟩ := bench_one s hn
    obtain ⟨t4, x4, s4, z4, k4, o4⟩ := verilog_one s hn
    have S2 := Lib.hid s2
    have S3 := Lib.hid s3
    have S4 := Lib.hid s4
    have Z2 := Lib.hid z2
    have Z3 := Lib.hid z3
    have Z4 := Lib.hid z4
    have K2 := Lib.hid k2
    have K3 := Lib.hid k3
    have K4 := Lib.hid k4
    have O2 := Lib.hid o2
    have O3 := Lib.hid o3
    have O4 := Lib.hid o4
    have htl := tl_self s
    clear hn s2 s3 s4 z2 z3 z4 k2 k3 k4 o2 o3 o4
    go_enter Tryd.func4, Tryd.ntmps4
    go_wp2_with fail
    refine (works_any _).mono ?_
    rintro e w1 ⟨rfl, b1⟩
    have B1 := Lib.hid b1
    clear b1
    go_wp2_with fail
    refine (name_any s _).mono ?_
    rw [HN.out]
    rintro e w' ⟨rfl, rfl⟩
    go_wp2
    go_loopw [4] (fun i wr => ∃ k : Nat, k ≤ 2 ∧ i = .int .i64 (k : Int) ∧ Below w.heap.size w wr) (fun i _ => 2 - (intOf i).toNat)
    case atStart => exact ⟨0, by omega, rfl, B1.out⟩
    case round =>
      obtain ⟨k, hk, rfl, hB⟩ := hrel
      have BR := Lib.hid hB
      clear hB
      have hk3 : k = 0 ∨ k = 1 ∨ k = 2 := by omega
      clear hk
      rcases hk3 with rfl | rfl | rfl
      · have hsp : spellF 0 s = (s, 0) := by unfold spellF; rw [HN.out]; rfl
        have hrd : readF 0 s = (s, 0) := by rw [show readF 0 s = if nameB s = true then (s, 0) else (⟨#[]⟩, 4) from rfl, HN.out]; rfl
        have HSP := Lib.hid hsp
        have HRD := Lib.hid hrd
        clear hsp hrd
        go_wp2_with fail
        refine (spell_any 0 s _ HS.out).mono ?_
        rw [HSP.out]
        rintro e w2 ⟨rfl, b2⟩
        have B2 := Lib.hid (BR.out.trans (b2.mono BR.out.size))
        clear b2
        simp only []
        go_wp2_with fail
        refine (read_any 0 s _ HS.out).mono ?_
        rw [HRD.out]
        rintro e w3 ⟨rfl, b3⟩
        have B3 := Lib.hid (B2.out.trans (b3.mono B2.out.size))
        clear b3
        simp only []
        go_wp2
        refine ⟨⟨1, by omega, by go_num, B3.out⟩, ?_⟩
        simp [intOf]
      · have hsp : spellF 1 s = (s, 0) := by unfold spellF; rw [HN.out]; rfl
        have hrd : readF 1 s = (s, 0) := by rw [show readF 1 s = if nameB s = true then (s, 0) else (⟨#[]⟩, 4) from rfl, HN.out]; rfl
        have HSP := Lib.hid hsp
        have HRD := Lib.hid hrd
        clear hsp hrd
        go_wp2_with fail
        refine (spell_any 1 s _ HS.out).mono ?_
        rw [HSP.out]
        rintro e w2 ⟨rfl, b2⟩
        have B2 := Lib.hid (BR.out.trans (b2.mono BR.out.size))
        clear b2
        simp only []
        go_wp2_with fail
        refine (read_any 1 s _ HS.out).mono ?_
        rw [HRD.out]
        rintro e w3 ⟨rfl, b3⟩
        have B3 := Lib.hid (B2.out.trans (b3.mono B2.out.size))
        clear b3
        simp only []
        go_wp2
        refine ⟨⟨2, by omega, by go_num, B3.out⟩, ?_⟩
        simp [intOf]
      · skip
        go_wp2_with fail
        refine (spell_any 2 s _ HS.out).mono ?_
        rw [S2.out]
        rintro e w2 ⟨rfl, b2⟩
        have B2 := Lib.hid (BR.out.trans (b2.mono BR.out.size))
        clear b2
        simp only []
        go_wp2_with fail
        refine (spell_any 3 s _ HS.out).mono ?_
        rw [S3.out]
        rintro e w3 ⟨rfl, b3⟩
        have B3 := Lib.hid (B2.out.trans (b3.mono B2.out.size))
        clear b3
        simp only []
        go_wp2_with fail
        refine (spell_any 4 s _ HS.out).mono ?_
        rw [S4.out]
        rintro e w4 ⟨rfl, b4⟩
        have B4 := Lib.hid (B3.out.trans (b4.mono B3.out.size))
        clear b4
        simp only []
        go_wp2_with fail
        refine (Tok.blif_any t2 _ (HXX.out.below B4.out) Z2.out).mono ?_
        rintro e w5 ⟨v2, rfl, r2, b5⟩
        have L := lst_of_cs r2
        rw [K2.out] at L
        have L2 := Lib.hid L
        have B5 := Lib.hid (B4.out.trans (b5.mono B4.out.size))
        obtain ⟨c2, d2, rfl⟩ : ∃ c d, v2 = .slice c 2 d := L.slice
        clear r2 b5 L
        go_wp2_with fail
        refine (Tok.bench_any t3 _ (HXX.out.below B5.out) Z3.out).mono ?_
        rw [K3.out]
        rintro e w6 ⟨v3, rfl, r3, b6⟩
        have L3 := Lib.hid (lst_of_cs r3)
        have M2 := Lib.hid (L2.out.below b6)
        have B6 := Lib.hid (B5.out.trans (b6.mono B5.out.size))
        obtain ⟨c3, d3, rfl⟩ : ∃ c d, v3 = .slice c 1 d := L3.out.slice
        clear r3 b6
        go_wp2_with fail
        refine (Tok.verilog_any t4 _ (HXX.out.below B6.out) Z4.out).mono ?_
        rw [K4.out]
        rintro e w7 ⟨v4, rfl, r4, b7⟩
        have L4 := Lib.hid (lst_of_cs r4)
        have N2 := Lib.hid (M2.out.below b7)
        have N3 := Lib.hid (L3.out.below b7)
        have B7 := Lib.hid (B6.out.trans (b7.mono B6.out.size))
        obtain ⟨c4, d4, rfl⟩ : ∃ c d, v4 = .slice c 1 d := L4.out.slice
        clear r4 b7
        obtain ⟨g2, p2, q2, y, e2, hv2, i2, hc2⟩ := N2.out.at_ tic_len (k := 0) (by simp)
        obtain rfl : x2 = y := by simpa using e2
        injection hv2 with hv2 hn2 hq2
        clear hn2 hq2
        subst hv2
        obtain ⟨g3, p3, q3, y, e3, hv3, i3, hc3⟩ := N3.out.at_ tic_len (k := 0) (by simp)
        obtain rfl : toI x3 = y := by simpa using e3
        injection hv3 with hv3 hn3 hq3
        clear hn3 hq3
        subst hv3
        obtain ⟨g4, p4, q4, y, e4, hv4, i4, hc4⟩ := L4.out.at_ tic_len (k := 0) (by simp)
        obtain rfl : toI x4 = y := by simpa using e4
        injection hv4 with hv4 hn4 hq4
        clear hn4 hq4
        subst hv4
        simp only [Nat.zero_mul, Nat.add_zero] at hc2 hc3 hc4
        have f20 : w7.cell? ⟨g2, p2, none⟩ = some (.int .i64 x2.k) := hc2 0 (by omega)
        have f21 : w7.cell? ⟨g2, p2 + 1, none⟩ = some (.string x2.t) := hc2 1 (by omega)
        have f22 : w7.cell? ⟨g2, p2 + 2, none⟩ = some (.int .i64 x2.p) := hc2 2 (by omega)
        have F3 := Lib.hid hc3
        have F4 := Lib.hid hc4
        have I3 := Lib.hid i3
        have I4 := Lib.hid i4
        clear hc2 hc3 hc4 e2 e3 e4 i2 i3 i4
        go_wp2_with fail
        refine (word_any 2 x2 _ O2.out.2).mono ?_
        rw [O2.out.1]
        rintro e w8 ⟨rfl, b8⟩
        have B8 := Lib.hid (B7.out.trans (b8.mono B7.out.size))
        have C8 := Lib.hid b8
        clear b8 f20 f21 f22
        simp only []
        have f30 : w8.cell? ⟨g3, p3, none⟩ = some (.int .i64 (toI x3).k) := (C8.out.cell (p := ⟨g3, p3, none⟩) I3.out).trans (F3.out 0 (by omega))
        have f31 : w8.cell? ⟨g3, p3 + 1, none⟩ = some (.string (toI x3).t) := (C8.out.cell (p := ⟨g3, p3 + 1, none⟩) I3.out).trans (F3.out 1 (by omega))
        have f32 : w8.cell? ⟨g3, p3 + 2, none⟩ = some (.int .i64 (toI x3).p) := (C8.out.cell (p := ⟨g3, p3 + 2, none⟩) I3.out).trans (F3.out 2 (by omega))
        generalize toI x3 = y3 at O3 F3 f30 f31 f32
        go_wp2_with fail
        refine (word_any 3 y3 _ O3.out.2).mono ?_
        rw [O3.out.1]
        rintro e w9 ⟨rfl, b9⟩
        have B9 := Lib.hid (B8.out.trans (b9.mono B8.out.size))
        have C9 := Lib.hid (C8.out.trans (b9.mono C8.out.size))
        clear b9 f30 f31 f32
        simp only []
        have f40 : w9.cell? ⟨g4, p4, none⟩ = some (.int .i64 (toI x4).k) := (C9.out.cell (p := ⟨g4, p4, none⟩) I4.out).trans (F4.out 0 (by omega))
        have f41 : w9.cell? ⟨g4, p4 + 1, none⟩ = some (.string (toI x4).t) := (C9.out.cell (p := ⟨g4, p4 + 1, none⟩) I4.out).trans (F4.out 1 (by omega))
        have f42 : w9.cell? ⟨g4, p4 + 2, none⟩ = some (.int .i64 (toI x4).p) := (C9.out.cell (p := ⟨g4, p4 + 2, none⟩) I4.out).trans (F4.out 2 (by omega))
        generalize toI x4 = y4 at O4 F4 f40 f41 f42
        go_wp2_with fail
        refine (word_any 4 y4 _ O4.out.2).mono ?_
        rw [O4.out.1]
        rintro e w10 ⟨rfl, b10⟩
        have B10 := Lib.hid (B9.out.trans (b10.mono B9.out.size))
        clear b10 f40 f41 f42
        simp only []
        go_wp2
        go_ret
        exact ⟨rfl, B10.out⟩
end Go.Proofs.YtfljnhmpelpdaaaDoor
