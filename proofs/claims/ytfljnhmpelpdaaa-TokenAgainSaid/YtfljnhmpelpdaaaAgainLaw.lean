/- TokenAgain: words, with a blank behind each, are the same words again. -/
import Derived.Test.YtfljnhmpelpdaaaSpaced
import Derived.Test.YtfljnhmpelpdaaaPlacesLaw
namespace Go.Proofs.Ytfljnhmpelpdaaa
open Go.RowKit

theorem pls_size {s : ByteArray} : ∀ {l : List Tk} {b e : Nat}, PlS s l b e → ∀ x ∈ l, x.t.size ≤ s.size
  | [], _, _, _, x, hx => by simp at hx
  | y :: l, b, e, h, x, hx => by
    rcases List.mem_cons.1 hx with rfl | hx
    · have := h.1.2.1
      omega
    · exact pls_size h.2 x hx
theorem lay_size (l : List Tk) (n : Nat) (h : ∀ x ∈ l, x.t.size ≤ n) : (layL l).length ≤ l.length * (n + 3) := by
  induction l with
  | nil => simp [layL]
  | cons x l ih =>
    have h1 := ih fun y hy => h y (by simp [hy])
    have h2 := h x (by simp)
    have h3 : (layT x).length ≤ n + 3 := by
      unfold layT
      have : x.t.data.toList.length = x.t.size := by simp
      simp only [List.length_append, this, List.length_singleton]
      split <;> split <;> simp <;> omega
    have h4 : layL (x :: l) = layT x ++ layL l := rfl
    rw [h4, List.length_append, List.length_cons, Nat.add_mul]
    omega

/-- what is told of a text, and of its words with a blank behind each -/
def OutA (w : World) (l : List Tk) (y : Int) (e : Ending) (w' : World) : Prop := ∃ v x, e = .returned (.tuple #[v, .int .i64 x, .int .i64 y]) ∧ Toks w' v l ∧ Below w.heap.size w w'
theorem agN (s : ByteArray) (hs : s.size ≤ 300) : ∃ (l m : List Tk) (y : Int), (y = 0 ∨ (y = 2 ∧ l = [])) ∧ l.length ≤ 301 ∧ (∀ x ∈ l, x.t.size ≤ 300) ∧ alike l m ∧
    (∀ w, HX w → Calls Try.prog 8 #[.string s] w (OutA w l y)) ∧ (∀ w, HX w → Calls Try.prog 8 #[.string ⟨(layL l).toArray⟩] w (OutA w m 0)) := by
  have h := fun w hX => bench_any s w hX (by omega)
  have hlen := fun l hl => runAll_len (stepN s) s.size (fun a l l' b h hs => stepN_go s a l l' b h hs) s.size [] 0 l (by simp) (by omega) hl
  change ∀ l, toksN s = .inl l → l.length ≤ s.size at hlen
  have hpl := toksN_placed s
  have hag := toksN_again s
  generalize toksN s = T at h hlen hpl hag
  have hA := fun t w hX hz => bench_any t w hX hz
  cases T with
  | inl l =>
    obtain ⟨m, hm, hal⟩ := hag l rfl
    have hl := hlen l rfl
    have hz : ∀ x ∈ l, x.t.size ≤ 300 := fun x hx => Nat.le_trans (pls_size (hpl l rfl) x hx) hs
    have hls := lay_size l 300 hz
    have hls2 : ByteArray.size ⟨(layL l).toArray⟩ ≤ 100000 := by
      have := Nat.mul_le_mul_right 303 (show l.length ≤ 300 by omega)
      show (layL l).toArray.size ≤ _
      simp; omega
    refine ⟨l, m, 0, .inl rfl, by omega, hz, hal, fun w hX => (h w hX).mono ?_, fun w hX => (hA _ w hX hls2).mono ?_⟩
    · rintro e w' ⟨v, rfl, hr, hb⟩
      exact ⟨v, 0, rfl, .of_row hr, hb⟩
    · rw [hm]
      rintro e w' ⟨v, rfl, hr, hb⟩
      exact ⟨v, 0, rfl, .of_row hr, hb⟩
  | inr a =>
    refine ⟨[], [], 2, .inr ⟨rfl, rfl⟩, by simp, by simp, trivial, fun w hX => (h w hX).mono ?_, fun w hX => (hA ⟨(layL []).toArray⟩ w hX (by decide)).mono ?_⟩
    · rintro e w' ⟨rfl, hb⟩
      exact ⟨_, _, rfl, toks_nil _, hb⟩
    · rw [show toksN ⟨(layL []).toArray⟩ = .inl [] from rfl]
      rintro e w' ⟨v, rfl, hr, hb⟩
      exact ⟨v, 0, rfl, .of_row hr, hb⟩
theorem agV (s : ByteArray) (hs : s.size ≤ 300) : ∃ (l m : List Tk) (y : Int), (y = 0 ∨ (y = 2 ∧ l = [])) ∧ l.length ≤ 301 ∧ (∀ x ∈ l, x.t.size ≤ 300) ∧ alike l m ∧
    (∀ w, HX w → Calls Try.prog 17 #[.string s] w (OutA w l y)) ∧ (∀ w, HX w → Calls Try.prog 17 #[.string ⟨(layL l).toArray⟩] w (OutA w m 0)) := by
  have h := fun w hX => verilog_any s w hX (by omega)
  have hlen := fun l hl => runAll_len (stepV s) s.size (fun a l l' b h hs => stepV_go s a l l' b h hs) s.size [] 0 l (by simp) (by omega) hl
  change ∀ l, toksV s = .inl l → l.length ≤ s.size at hlen
  have hpl := toksV_placed s
  have hag := toksV_again s
  generalize toksV s = T at h hlen hpl hag
  have hA := fun t w hX hz => verilog_any t w hX hz
  cases T with
  | inl l =>
    obtain ⟨m, hm, hal⟩ := hag l rfl
    have hl := hlen l rfl
    have hz : ∀ x ∈ l, x.t.size ≤ 300 := fun x hx => Nat.le_trans (pls_size (hpl l rfl) x hx) hs
    have hls := lay_size l 300 hz
    have hls2 : ByteArray.size ⟨(layL l).toArray⟩ ≤ 100000 := by
      have := Nat.mul_le_mul_right 303 (show l.length ≤ 300 by omega)
      show (layL l).toArray.size ≤ _
      simp; omega
    refine ⟨l, m, 0, .inl rfl, by omega, hz, hal, fun w hX => (h w hX).mono ?_, fun w hX => (hA _ w hX hls2).mono ?_⟩
    · rintro e w' ⟨v, rfl, hr, hb⟩
      exact ⟨v, 0, rfl, .of_row hr, hb⟩
    · rw [hm]
      rintro e w' ⟨v, rfl, hr, hb⟩
      exact ⟨v, 0, rfl, .of_row hr, hb⟩
  | inr a =>
    refine ⟨[], [], 2, .inr ⟨rfl, rfl⟩, by simp, by simp, trivial, fun w hX => (h w hX).mono ?_, fun w hX => (hA ⟨(layL []).toArray⟩ w hX (by decide)).mono ?_⟩
    · rintro e w' ⟨rfl, hb⟩
      exact ⟨_, _, rfl, toks_nil _, hb⟩
    · rw [show toksV ⟨(layL []).toArray⟩ = .inl [] from rfl]
      rintro e w' ⟨v, rfl, hr, hb⟩
      exact ⟨v, 0, rfl, .of_row hr, hb⟩

theorem agB (s : ByteArray) (hs : s.size ≤ 300) : ∃ (l m : List Tk), l.length ≤ 301 ∧ (∀ x ∈ l, x.t.size ≤ 300) ∧ alike l m ∧
    (∀ w, HX w → Calls Try.prog 16 #[.string s] w fun e w' => ∃ v, e = .returned v ∧ Toks w' v l ∧ Below w.heap.size w w') ∧ (∀ w, HX w → Calls Try.prog 16 #[.string ⟨(layL l).toArray⟩] w fun e w' => ∃ v, e = .returned v ∧ Toks w' v m ∧ Below w.heap.size w w') := by
  have h := fun w hX => blif_any s w hX (by omega)
  have hl := toksB_len s
  have hpl := toksB_placed s
  have hag := toksB_again s
  generalize toksB s = l at h hl hpl hag
  have hz : ∀ x ∈ l, x.t.size ≤ 300 := fun x hx => Nat.le_trans (pls_size hpl x hx) hs
  have hls := lay_size l 300 hz
  have hls2 : ByteArray.size ⟨(layL l).toArray⟩ ≤ 100000 := by
    have := Nat.mul_le_mul_right 303 (show l.length ≤ 301 by omega)
    show (layL l).toArray.size ≤ _
    simp; omega
  refine ⟨l, _, by omega, hz, hag, fun w hX => (h w hX).mono ?_, fun w hX => (blif_any ⟨(layL l).toArray⟩ w hX hls2).mono ?_⟩
  · rintro e w' ⟨v, rfl, hr, hb⟩
    exact ⟨v, rfl, .of_row hr, hb⟩
  · rintro e w' ⟨v, rfl, hr, hb⟩
    exact ⟨v, rfl, .of_row hr, hb⟩

set_option maxRecDepth 100000 in
set_option maxHeartbeats 400000 in
theorem again_big (s : ByteArray) (w : World) (h : (300 : Int) < (s.size : Int)) (hX : HX w) : Calls Try.prog 5 #[.string s] w fun e w' => e = .returned (.bool true) ∧ Below w.heap.size w w' := by
  go_enter Try.func5, Try.ntmps5
  go_wp2_with fail
  refine (works_any _ hX).mono ?_
  rintro e w1 ⟨rfl, b1⟩
  clear hX
  go_wp2
  go_ret
  exact ⟨rfl, b1⟩

set_option maxRecDepth 100000 in
set_option maxHeartbeats 1000000 in
theorem again_in (s : ByteArray) (w : World) (hs : ¬ (300 : Int) < (s.size : Int)) (hX : HX w) : Calls Try.prog 5 #[.string s] w fun e w' => e = .returned (.bool true) ∧ Below w.heap.size w w' := by
  obtain ⟨la, ma, na, za, ala, hA1, hA2⟩ := agB s (by omega)
  obtain ⟨lb, mb, yb, hyb, nb, zb, alb, hB1, hB2⟩ := agN s (by omega)
  obtain ⟨lc, mc, yc, hyc, nc, zc, alc, hC1, hC2⟩ := agV s (by omega)
  have A1 := Lib.hid hA1
  have A2 := Lib.hid hA2
  have D1 := Lib.hid hB1
  have D2 := Lib.hid hB2
  have E1 := Lib.hid hC1
  have E2 := Lib.hid hC2
  have ZA := Lib.hid za
  have ZB := Lib.hid zb
  have ZC := Lib.hid zc
  have KA := Lib.hid ala
  have KB := Lib.hid alb
  have KC := Lib.hid alc
  have X0 := Lib.hid hX
  clear hA1 hA2 hB1 hB2 hC1 hC2 za zb zc ala alb alc hX
  rcases hyb with rfl | ⟨rfl, rfl⟩
  · rcases hyc with rfl | ⟨rfl, rfl⟩
    · go_enter Try.func5, Try.ntmps5
      go_wp2_with fail
      refine (works_any _ X0.out).mono ?_
      rintro e w1 ⟨rfl, b1⟩
      have B1 := Lib.hid b1
      have X1 := Lib.hid (X0.out.below b1)
      clear b1
      go_wp2_with fail
      refine (A1.out _ X1.out).mono ?_
      rintro e w2 ⟨v2, rfl, t2, b2⟩
      have TA2 := Lib.hid t2
      obtain ⟨pa, qa, rfl⟩ := toks_slice t2
      have B2 := Lib.hid (B1.out.trans (b2.mono B1.out.size))
      have X2 := Lib.hid (X1.out.below b2)
      clear t2 b2
      go_wp2_with fail
      refine (D1.out _ X2.out).mono ?_
      rintro e w3 ⟨v3, x3, rfl, t3, b3⟩
      have TB3 := Lib.hid t3
      obtain ⟨pb, qb, rfl⟩ := toks_slice t3
      have TA3 := Lib.hid (TA2.out.below b3)
      have B3 := Lib.hid (B2.out.trans (b3.mono B2.out.size))
      have X3 := Lib.hid (X2.out.below b3)
      clear t3 b3
      go_wp2_with fail
      refine (E1.out _ X3.out).mono ?_
      rintro e w4 ⟨v4, x4, rfl, t4, b4⟩
      have TC4 := Lib.hid t4
      obtain ⟨pc, qc, rfl⟩ := toks_slice t4
      have TA4 := Lib.hid (TA3.out.below b4)
      have TB4 := Lib.hid (TB3.out.below b4)
      have B4 := Lib.hid (B3.out.trans (b4.mono B3.out.size))
      have X4 := Lib.hid (X3.out.below b4)
      clear t4 b4
      go_wp2_with fail
      refine (spaced_any la _ _ (by omega) (fun x hx => by have := ZA.out x hx; omega) TA4.out).mono ?_
      rintro e w' ⟨rfl, rfl⟩
      go_wp2_with fail
      refine (A2.out _ X4.out).mono ?_
      rintro e w5 ⟨v5, rfl, t5, b5⟩
      have UA5 := Lib.hid t5
      obtain ⟨ra, sa, rfl⟩ := toks_slice t5
      have TA5 := Lib.hid (TA4.out.below b5)
      have TB5 := Lib.hid (TB4.out.below b5)
      have TC5 := Lib.hid (TC4.out.below b5)
      have B5 := Lib.hid (B4.out.trans (b5.mono B4.out.size))
      have X5 := Lib.hid (X4.out.below b5)
      clear t5 b5
      go_wp2_with fail
      refine (spaced_any lb _ _ (by omega) (fun x hx => by have := ZB.out x hx; omega) TB5.out).mono ?_
      rintro e w' ⟨rfl, rfl⟩
      go_wp2_with fail
      refine (D2.out _ X5.out).mono ?_
      rintro e w6 ⟨v6, x6, rfl, t6, b6⟩
      have UB6 := Lib.hid t6
      obtain ⟨rb, sb, rfl⟩ := toks_slice t6
      have TA6 := Lib.hid (TA5.out.below b6)
      have TB6 := Lib.hid (TB5.out.below b6)
      have TC6 := Lib.hid (TC5.out.below b6)
      have UA6 := Lib.hid (UA5.out.below b6)
      have B6 := Lib.hid (B5.out.trans (b6.mono B5.out.size))
      have X6 := Lib.hid (X5.out.below b6)
      clear t6 b6
      go_wp2_with fail
      refine (spaced_any lc _ _ (by omega) (fun x hx => by have := ZC.out x hx; omega) TC6.out).mono ?_
      rintro e w' ⟨rfl, rfl⟩
      go_wp2_with fail
      refine (E2.out _ X6.out).mono ?_
      rintro e w7 ⟨v7, x7, rfl, t7, b7⟩
      have UC7 := Lib.hid t7
      obtain ⟨rc, sc, rfl⟩ := toks_slice t7
      have TA7 := Lib.hid (TA6.out.below b7)
      have TB7 := Lib.hid (TB6.out.below b7)
      have TC7 := Lib.hid (TC6.out.below b7)
      have UA7 := Lib.hid (UA6.out.below b7)
      have UB7 := Lib.hid (UB6.out.below b7)
      have B7 := Lib.hid (B6.out.trans (b7.mono B6.out.size))
      clear t7 b7
      go_wp2_with fail
      refine (kinds_any la ma _ _ _ (by omega) KA.out TA7.out UA7.out).mono ?_
      rintro e w8 ⟨rfl, b8⟩
      have TB8 := Lib.hid (TB7.out.below b8)
      have TC8 := Lib.hid (TC7.out.below b8)
      have UB8 := Lib.hid (UB7.out.below b8)
      have UC8 := Lib.hid (UC7.out.below b8)
      have B8 := Lib.hid (B7.out.trans (b8.mono B7.out.size))
      clear b8
      go_wp2_with fail
      refine (kinds_any lb mb _ _ _ (by omega) KB.out TB8.out UB8.out).mono ?_
      rintro e w9 ⟨rfl, b9⟩
      have TC9 := Lib.hid (TC8.out.below b9)
      have UC9 := Lib.hid (UC8.out.below b9)
      have B9 := Lib.hid (B8.out.trans (b9.mono B8.out.size))
      clear b9
      go_wp2_with fail
      refine (kinds_any lc mc _ _ _ (by omega) KC.out TC9.out UC9.out).mono ?_
      rintro e w10 ⟨rfl, b10⟩
      have B10 := Lib.hid (B9.out.trans (b10.mono B9.out.size))
      clear b10
      go_wp2
      go_ret
      exact ⟨rfl, B10.out⟩
    · go_enter Try.func5, Try.ntmps5
      go_wp2_with fail
      refine (works_any _ X0.out).mono ?_
      rintro e w1 ⟨rfl, b1⟩
      have B1 := Lib.hid b1
      have X1 := Lib.hid (X0.out.below b1)
      clear b1
      go_wp2_with fail
      refine (A1.out _ X1.out).mono ?_
      rintro e w2 ⟨v2, rfl, t2, b2⟩
      have TA2 := Lib.hid t2
      obtain ⟨pa, qa, rfl⟩ := toks_slice t2
      have B2 := Lib.hid (B1.out.trans (b2.mono B1.out.size))
      have X2 := Lib.hid (X1.out.below b2)
      clear t2 b2
      go_wp2_with fail
      refine (D1.out _ X2.out).mono ?_
      rintro e w3 ⟨v3, x3, rfl, t3, b3⟩
      have TB3 := Lib.hid t3
      obtain ⟨pb, qb, rfl⟩ := toks_slice t3
      have TA3 := Lib.hid (TA2.out.below b3)
      have B3 := Lib.hid (B2.out.trans (b3.mono B2.out.size))
      have X3 := Lib.hid (X2.out.below b3)
      clear t3 b3
      go_wp2_with fail
      refine (E1.out _ X3.out).mono ?_
      rintro e w4 ⟨v4, x4, rfl, t4, b4⟩
      have TC4 := Lib.hid t4
      obtain ⟨pc, qc, rfl⟩ := toks_slice t4
      have TA4 := Lib.hid (TA3.out.below b4)
      have TB4 := Lib.hid (TB3.out.below b4)
      have B4 := Lib.hid (B3.out.trans (b4.mono B3.out.size))
      have X4 := Lib.hid (X3.out.below b4)
      clear t4 b4
      go_wp2_with fail
      refine (spaced_any la _ _ (by omega) (fun x hx => by have := ZA.out x hx; omega) TA4.out).mono ?_
      rintro e w' ⟨rfl, rfl⟩
      go_wp2_with fail
      refine (A2.out _ X4.out).mono ?_
      rintro e w5 ⟨v5, rfl, t5, b5⟩
      have UA5 := Lib.hid t5
      obtain ⟨ra, sa, rfl⟩ := toks_slice t5
      have TA5 := Lib.hid (TA4.out.below b5)
      have TB5 := Lib.hid (TB4.out.below b5)
      have TC5 := Lib.hid (TC4.out.below b5)
      have B5 := Lib.hid (B4.out.trans (b5.mono B4.out.size))
      have X5 := Lib.hid (X4.out.below b5)
      clear t5 b5
      go_wp2_with fail
      refine (spaced_any lb _ _ (by omega) (fun x hx => by have := ZB.out x hx; omega) TB5.out).mono ?_
      rintro e w' ⟨rfl, rfl⟩
      go_wp2_with fail
      refine (D2.out _ X5.out).mono ?_
      rintro e w6 ⟨v6, x6, rfl, t6, b6⟩
      have UB6 := Lib.hid t6
      obtain ⟨rb, sb, rfl⟩ := toks_slice t6
      have TA6 := Lib.hid (TA5.out.below b6)
      have TB6 := Lib.hid (TB5.out.below b6)
      have TC6 := Lib.hid (TC5.out.below b6)
      have UA6 := Lib.hid (UA5.out.below b6)
      have B6 := Lib.hid (B5.out.trans (b6.mono B5.out.size))
      have X6 := Lib.hid (X5.out.below b6)
      clear t6 b6
      go_wp2_with fail
      refine (spaced_any [] _ _ (by simp) (by simp) TC6.out).mono ?_
      rintro e w' ⟨rfl, rfl⟩
      go_wp2_with fail
      refine (E2.out _ X6.out).mono ?_
      rintro e w7 ⟨v7, x7, rfl, t7, b7⟩
      have UC7 := Lib.hid t7
      obtain ⟨rc, sc, rfl⟩ := toks_slice t7
      have TA7 := Lib.hid (TA6.out.below b7)
      have TB7 := Lib.hid (TB6.out.below b7)
      have TC7 := Lib.hid (TC6.out.below b7)
      have UA7 := Lib.hid (UA6.out.below b7)
      have UB7 := Lib.hid (UB6.out.below b7)
      have B7 := Lib.hid (B6.out.trans (b7.mono B6.out.size))
      clear t7 b7
      go_wp2_with fail
      refine (kinds_any la ma _ _ _ (by omega) KA.out TA7.out UA7.out).mono ?_
      rintro e w8 ⟨rfl, b8⟩
      have TB8 := Lib.hid (TB7.out.below b8)
      have TC8 := Lib.hid (TC7.out.below b8)
      have UB8 := Lib.hid (UB7.out.below b8)
      have UC8 := Lib.hid (UC7.out.below b8)
      have B8 := Lib.hid (B7.out.trans (b8.mono B7.out.size))
      clear b8
      go_wp2_with fail
      refine (kinds_any lb mb _ _ _ (by omega) KB.out TB8.out UB8.out).mono ?_
      rintro e w9 ⟨rfl, b9⟩
      have TC9 := Lib.hid (TC8.out.below b9)
      have UC9 := Lib.hid (UC8.out.below b9)
      have B9 := Lib.hid (B8.out.trans (b9.mono B8.out.size))
      clear b9
      go_wp2_with fail
      refine (kinds_any [] mc _ _ _ (by simp) KC.out TC9.out UC9.out).mono ?_
      rintro e w10 ⟨rfl, b10⟩
      have B10 := Lib.hid (B9.out.trans (b10.mono B9.out.size))
      clear b10
      go_wp2
      go_ret
      exact ⟨rfl, B10.out⟩
  · rcases hyc with rfl | ⟨rfl, rfl⟩
    · go_enter Try.func5, Try.ntmps5
      go_wp2_with fail
      refine (works_any _ X0.out).mono ?_
      rintro e w1 ⟨rfl, b1⟩
      have B1 := Lib.hid b1
      have X1 := Lib.hid (X0.out.below b1)
      clear b1
      go_wp2_with fail
      refine (A1.out _ X1.out).mono ?_
      rintro e w2 ⟨v2, rfl, t2, b2⟩
      have TA2 := Lib.hid t2
      obtain ⟨pa, qa, rfl⟩ := toks_slice t2
      have B2 := Lib.hid (B1.out.trans (b2.mono B1.out.size))
      have X2 := Lib.hid (X1.out.below b2)
      clear t2 b2
      go_wp2_with fail
      refine (D1.out _ X2.out).mono ?_
      rintro e w3 ⟨v3, x3, rfl, t3, b3⟩
      have TB3 := Lib.hid t3
      obtain ⟨pb, qb, rfl⟩ := toks_slice t3
      have TA3 := Lib.hid (TA2.out.below b3)
      have B3 := Lib.hid (B2.out.trans (b3.mono B2.out.size))
      have X3 := Lib.hid (X2.out.below b3)
      clear t3 b3
      go_wp2_with fail
      refine (E1.out _ X3.out).mono ?_
      rintro e w4 ⟨v4, x4, rfl, t4, b4⟩
      have TC4 := Lib.hid t4
      obtain ⟨pc, qc, rfl⟩ := toks_slice t4
      have TA4 := Lib.hid (TA3.out.below b4)
      have TB4 := Lib.hid (TB3.out.below b4)
      have B4 := Lib.hid (B3.out.trans (b4.mono B3.out.size))
      have X4 := Lib.hid (X3.out.below b4)
      clear t4 b4
      go_wp2_with fail
      refine (spaced_any la _ _ (by omega) (fun x hx => by have := ZA.out x hx; omega) TA4.out).mono ?_
      rintro e w' ⟨rfl, rfl⟩
      go_wp2_with fail
      refine (A2.out _ X4.out).mono ?_
      rintro e w5 ⟨v5, rfl, t5, b5⟩
      have UA5 := Lib.hid t5
      obtain ⟨ra, sa, rfl⟩ := toks_slice t5
      have TA5 := Lib.hid (TA4.out.below b5)
      have TB5 := Lib.hid (TB4.out.below b5)
      have TC5 := Lib.hid (TC4.out.below b5)
      have B5 := Lib.hid (B4.out.trans (b5.mono B4.out.size))
      have X5 := Lib.hid (X4.out.below b5)
      clear t5 b5
      go_wp2_with fail
      refine (spaced_any [] _ _ (by simp) (by simp) TB5.out).mono ?_
      rintro e w' ⟨rfl, rfl⟩
      go_wp2_with fail
      refine (D2.out _ X5.out).mono ?_
      rintro e w6 ⟨v6, x6, rfl, t6, b6⟩
      have UB6 := Lib.hid t6
      obtain ⟨rb, sb, rfl⟩ := toks_slice t6
      have TA6 := Lib.hid (TA5.out.below b6)
      have TB6 := Lib.hid (TB5.out.below b6)
      have TC6 := Lib.hid (TC5.out.below b6)
      have UA6 := Lib.hid (UA5.out.below b6)
      have B6 := Lib.hid (B5.out.trans (b6.mono B5.out.size))
      have X6 := Lib.hid (X5.out.below b6)
      clear t6 b6
      go_wp2_with fail
      refine (spaced_any lc _ _ (by omega) (fun x hx => by have := ZC.out x hx; omega) TC6.out).mono ?_
      rintro e w' ⟨rfl, rfl⟩
      go_wp2_with fail
      refine (E2.out _ X6.out).mono ?_
      rintro e w7 ⟨v7, x7, rfl, t7, b7⟩
      have UC7 := Lib.hid t7
      obtain ⟨rc, sc, rfl⟩ := toks_slice t7
      have TA7 := Lib.hid (TA6.out.below b7)
      have TB7 := Lib.hid (TB6.out.below b7)
      have TC7 := Lib.hid (TC6.out.below b7)
      have UA7 := Lib.hid (UA6.out.below b7)
      have UB7 := Lib.hid (UB6.out.below b7)
      have B7 := Lib.hid (B6.out.trans (b7.mono B6.out.size))
      clear t7 b7
      go_wp2_with fail
      refine (kinds_any la ma _ _ _ (by omega) KA.out TA7.out UA7.out).mono ?_
      rintro e w8 ⟨rfl, b8⟩
      have TB8 := Lib.hid (TB7.out.below b8)
      have TC8 := Lib.hid (TC7.out.below b8)
      have UB8 := Lib.hid (UB7.out.below b8)
      have UC8 := Lib.hid (UC7.out.below b8)
      have B8 := Lib.hid (B7.out.trans (b8.mono B7.out.size))
      clear b8
      go_wp2_with fail
      refine (kinds_any [] mb _ _ _ (by simp) KB.out TB8.out UB8.out).mono ?_
      rintro e w9 ⟨rfl, b9⟩
      have TC9 := Lib.hid (TC8.out.below b9)
      have UC9 := Lib.hid (UC8.out.below b9)
      have B9 := Lib.hid (B8.out.trans (b9.mono B8.out.size))
      clear b9
      go_wp2_with fail
      refine (kinds_any lc mc _ _ _ (by omega) KC.out TC9.out UC9.out).mono ?_
      rintro e w10 ⟨rfl, b10⟩
      have B10 := Lib.hid (B9.out.trans (b10.mono B9.out.size))
      clear b10
      go_wp2
      go_ret
      exact ⟨rfl, B10.out⟩
    · go_enter Try.func5, Try.ntmps5
      go_wp2_with fail
      refine (works_any _ X0.out).mono ?_
      rintro e w1 ⟨rfl, b1⟩
      have B1 := Lib.hid b1
      have X1 := Lib.hid (X0.out.below b1)
      clear b1
      go_wp2_with fail
      refine (A1.out _ X1.out).mono ?_
      rintro e w2 ⟨v2, rfl, t2, b2⟩
      have TA2 := Lib.hid t2
      obtain ⟨pa, qa, rfl⟩ := toks_slice t2
      have B2 := Lib.hid (B1.out.trans (b2.mono B1.out.size))
      have X2 := Lib.hid (X1.out.below b2)
      clear t2 b2
      go_wp2_with fail
      refine (D1.out _ X2.out).mono ?_
      rintro e w3 ⟨v3, x3, rfl, t3, b3⟩
      have TB3 := Lib.hid t3
      obtain ⟨pb, qb, rfl⟩ := toks_slice t3
      have TA3 := Lib.hid (TA2.out.below b3)
      have B3 := Lib.hid (B2.out.trans (b3.mono B2.out.size))
      have X3 := Lib.hid (X2.out.below b3)
      clear t3 b3
      go_wp2_with fail
      refine (E1.out _ X3.out).mono ?_
      rintro e w4 ⟨v4, x4, rfl, t4, b4⟩
      have TC4 := Lib.hid t4
      obtain ⟨pc, qc, rfl⟩ := toks_slice t4
      have TA4 := Lib.hid (TA3.out.below b4)
      have TB4 := Lib.hid (TB3.out.below b4)
      have B4 := Lib.hid (B3.out.trans (b4.mono B3.out.size))
      have X4 := Lib.hid (X3.out.below b4)
      clear t4 b4
      go_wp2_with fail
      refine (spaced_any la _ _ (by omega) (fun x hx => by have := ZA.out x hx; omega) TA4.out).mono ?_
      rintro e w' ⟨rfl, rfl⟩
      go_wp2_with fail
      refine (A2.out _ X4.out).mono ?_
      rintro e w5 ⟨v5, rfl, t5, b5⟩
      have UA5 := Lib.hid t5
      obtain ⟨ra, sa, rfl⟩ := toks_slice t5
      have TA5 := Lib.hid (TA4.out.below b5)
      have TB5 := Lib.hid (TB4.out.below b5)
      have TC5 := Lib.hid (TC4.out.below b5)
      have B5 := Lib.hid (B4.out.trans (b5.mono B4.out.size))
      have X5 := Lib.hid (X4.out.below b5)
      clear t5 b5
      go_wp2_with fail
      refine (spaced_any [] _ _ (by simp) (by simp) TB5.out).mono ?_
      rintro e w' ⟨rfl, rfl⟩
      go_wp2_with fail
      refine (D2.out _ X5.out).mono ?_
      rintro e w6 ⟨v6, x6, rfl, t6, b6⟩
      have UB6 := Lib.hid t6
      obtain ⟨rb, sb, rfl⟩ := toks_slice t6
      have TA6 := Lib.hid (TA5.out.below b6)
      have TB6 := Lib.hid (TB5.out.below b6)
      have TC6 := Lib.hid (TC5.out.below b6)
      have UA6 := Lib.hid (UA5.out.below b6)
      have B6 := Lib.hid (B5.out.trans (b6.mono B5.out.size))
      have X6 := Lib.hid (X5.out.below b6)
      clear t6 b6
      go_wp2_with fail
      refine (spaced_any [] _ _ (by simp) (by simp) TC6.out).mono ?_
      rintro e w' ⟨rfl, rfl⟩
      go_wp2_with fail
      refine (E2.out _ X6.out).mono ?_
      rintro e w7 ⟨v7, x7, rfl, t7, b7⟩
      have UC7 := Lib.hid t7
      obtain ⟨rc, sc, rfl⟩ := toks_slice t7
      have TA7 := Lib.hid (TA6.out.below b7)
      have TB7 := Lib.hid (TB6.out.below b7)
      have TC7 := Lib.hid (TC6.out.below b7)
      have UA7 := Lib.hid (UA6.out.below b7)
      have UB7 := Lib.hid (UB6.out.below b7)
      have B7 := Lib.hid (B6.out.trans (b7.mono B6.out.size))
      clear t7 b7
      go_wp2_with fail
      refine (kinds_any la ma _ _ _ (by omega) KA.out TA7.out UA7.out).mono ?_
      rintro e w8 ⟨rfl, b8⟩
      have TB8 := Lib.hid (TB7.out.below b8)
      have TC8 := Lib.hid (TC7.out.below b8)
      have UB8 := Lib.hid (UB7.out.below b8)
      have UC8 := Lib.hid (UC7.out.below b8)
      have B8 := Lib.hid (B7.out.trans (b8.mono B7.out.size))
      clear b8
      go_wp2_with fail
      refine (kinds_any [] mb _ _ _ (by simp) KB.out TB8.out UB8.out).mono ?_
      rintro e w9 ⟨rfl, b9⟩
      have TC9 := Lib.hid (TC8.out.below b9)
      have UC9 := Lib.hid (UC8.out.below b9)
      have B9 := Lib.hid (B8.out.trans (b9.mono B8.out.size))
      clear b9
      go_wp2_with fail
      refine (kinds_any [] mc _ _ _ (by simp) KC.out TC9.out UC9.out).mono ?_
      rintro e w10 ⟨rfl, b10⟩
      have B10 := Lib.hid (B9.out.trans (b10.mono B9.out.size))
      clear b10
      go_wp2
      go_ret
      exact ⟨rfl, B10.out⟩
theorem law_again (s : ByteArray) (_hs : s.size ≤ maxLen) (w : World) (hX : HX w) : Calls Try.prog 5 #[.string s] w fun e w' => e = .returned (.bool true) ∧ Below w.heap.size w w' := by
  by_cases h : (300 : Int) < (s.size : Int)
  · exact again_big s w h hX
  · exact again_in s w h hX
end Go.Proofs.Ytfljnhmpelpdaaa
