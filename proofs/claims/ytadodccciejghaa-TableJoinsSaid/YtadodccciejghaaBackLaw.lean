/- TableBack: ahead and back. -/
import Derived.Test.YtadodccciejghaaMakesLaw
import Derived.Test.YtadodccciejghaaReg
namespace Go.Proofs.Ytadodccciejghaa
open Go.RowKit
attribute [local go_sem] Oper.semAt_some
set_option maxRecDepth 100000
set_option maxHeartbeats 2000000

theorem ahead_ex2 (a b : List ByteArray) (v u : Value) (s r : ByteArray) (q : Bool) (w : World) (hv : Lst stc w v a) (hu : Lst stc w u b) (hz : ∀ x ∈ a, x.size ≤ 60) (hz' : ∀ x ∈ b, x.size ≤ 60) (hs : s.size ≤ maxLen) (hq : aheadF a b s = (r, q)) :
    Calls Try.prog 19 #[.agg #[v, u], .string s] w fun e w' => e = .returned (.tuple #[.string r, .bool q]) ∧ Below w.heap.size w w' := by
  have := tahead_any a b v u s w hv hu (max60 hz) (max60 hz') hs
  rw [hq] at this
  exact this
theorem back_ex2 (a b : List ByteArray) (v u : Value) (s r : ByteArray) (q : Bool) (w : World) (hv : Lst stc w v a) (hu : Lst stc w u b) (hz : ∀ x ∈ a, x.size ≤ 60) (hz' : ∀ x ∈ b, x.size ≤ 60) (hs : s.size ≤ maxLen) (hq : aheadF b a s = (r, q)) :
    Calls Try.prog 21 #[.agg #[v, u], .string s] w fun e w' => e = .returned (.tuple #[.string r, .bool q]) ∧ Below w.heap.size w w' := by
  have := tback_any a b v u s w hv hu (max60 hz) (max60 hz') hs
  rw [hq] at this
  exact this
theorem aheadF_size {a b : List ByteArray} {s r : ByteArray} {k : Bool} (h : aheadF a b s = (r, k)) (hz : ∀ x ∈ b, x.size ≤ 60) : r.size ≤ maxLen := by
  have hn : (0 : Nat) ≤ maxLen := Nat.zero_le _
  unfold aheadF at h
  split at h
  · rw [goF_res] at h
    cases hg : goL a b s with
    | none => rw [hg] at h; cases h; exact hn
    | some y =>
      rw [hg] at h
      cases h
      have := hz _ (goL_mem a b s _ hg).2
      unfold maxLen
      omega
  · cases h; exact hn
theorem aheadF_back {a b : List ByteArray} {s r : ByteArray} (h : aheadF a b s = (r, true)) : aheadF b a r = (s, true) := by
  by_cases h0 : checkF a b = 0
  · rw [aheadF_yes h0] at h
    cases hg : goL a b s with
    | none => rw [hg] at h; cases h
    | some y =>
      rw [hg] at h
      cases h
      rw [aheadF_yes (check_turn.1 h0), go_back a b s _ ((check_ok a b).1 h0).2.2.2.2.2 hg]
      rfl
  · rw [aheadF_no h0] at h
    cases h
theorem aheadF_none {a b : List ByteArray} {s r : ByteArray} (h : aheadF a b s = (r, false)) : r = ⟨#[]⟩ := by
  by_cases h0 : checkF a b = 0
  · rw [aheadF_yes h0] at h
    cases hg : goL a b s with
    | none => rw [hg] at h; cases h; rfl
    | some y => rw [hg] at h; cases h
  · rw [aheadF_no h0] at h
    cases h
    rfl
/-- the empty text is no name -/
theorem aheadF_empty (a b : List ByteArray) : aheadF a b ⟨#[]⟩ = (⟨#[]⟩, false) := by
  by_cases h0 : checkF a b = 0
  · rw [aheadF_yes h0]
    have hok := (check_ok a b).1 h0
    have : goL a b ⟨#[]⟩ = none := (goL_none a b _ hok.2.1).2 fun hm => by
      have := hok.2.2.1 _ hm
      exact absurd this (by decide)
    rw [this]
    rfl
  · exact aheadF_no h0 _

theorem back_no1 (a b : List ByteArray) (v u : Value) (s : ByteArray) (w : World) (hv : Lst stc w v a) (hu : Lst stc w u b) (h1 : (fewB a 210 && fewB b 210) = false) :
    Calls Try.prog 5 #[.agg #[v, u], .string s] w fun e w' => e = .returned (.bool true) ∧ Below w.heap.size w w' := by
  have H1 := Lib.hid h1
  clear h1
  have HV := Lib.hid hv
  have HU := Lib.hid hu
  obtain ⟨va, vc, rfl⟩ := hv.slice
  obtain ⟨ua, uc, rfl⟩ := hu.slice
  clear hv hu
  go_enter Try.func5, Try.ntmps5
  go_wp2_with fail
  have a1 : Below w.heap.size w (w.alloc (.cells #[.slice va a.length vc, .slice ua b.length uc] 24)) := ((Below.refl w.heap.size w).alloc (by first | exact Nat.le_refl _ | (simp only [World.size_alloc]; omega)) (.cells #[.slice va a.length vc, .slice ua b.length uc] 24))
  have T_new0 := (Blk.new w #[.slice va a.length vc, .slice ua b.length uc] 24)
  have KT_00 := Lib.hid T_new0
  clear T_new0
  have V_1 := Lib.hid (HV.out.below a1)
  clear HV
  have U_1 := Lib.hid (HU.out.below a1)
  clear HU
  have B_1 := Lib.hid a1
  clear a1
  generalize (w.alloc (.cells #[.slice va a.length vc, .slice ua b.length uc] 24)) = w1 at V_1 U_1 KT_00 B_1 ⊢
  refine (works_any _).mono ?_
  rintro e w2 ⟨rfl, b2⟩
  have V_2 := Lib.hid (V_1.out.below b2)
  clear V_1
  have U_2 := Lib.hid (U_1.out.below b2)
  clear U_1
  have KT_2 := Lib.hid (KT_00.out.below b2 KT_00.out.lt)
  clear KT_00
  have B_2 := Lib.hid (B_1.out.trans (b2.mono B_1.out.size))
  clear B_1
  clear b2
  have lT_2 : w.heap.size < w2.heap.size := KT_2.out.lt
  have cT_0_2 : w2.cell? ⟨w.heap.size, 0, none⟩ = some (.slice va a.length vc) := KT_2.out.cell 0
  have cT_1_2 : w2.cell? ⟨w.heap.size, 1, none⟩ = some (.slice ua b.length uc) := KT_2.out.cell 1
  go_wp2_with fail
  clear lT_2 cT_0_2 cT_1_2
  refine (few_ex a b _ _ false _ V_2.out U_2.out H1.out).mono ?_
  rintro e w3 ⟨rfl, b3⟩
  have V_3 := Lib.hid (V_2.out.below b3)
  clear V_2
  have U_3 := Lib.hid (U_2.out.below b3)
  clear U_2
  have KT_3 := Lib.hid (KT_2.out.below b3 KT_2.out.lt)
  clear KT_2
  have B_3 := Lib.hid (B_2.out.trans (b3.mono B_2.out.size))
  clear B_2
  clear b3
  go_wp2
  go_ret
  exact ⟨rfl, B_3.out⟩

theorem back_no2 (a b : List ByteArray) (v u : Value) (s : ByteArray) (w : World) (hv : Lst stc w v a) (hu : Lst stc w u b) (h1 : (fewB a 210 && fewB b 210) = true) (h0 : ¬ checkF a b = 0) :
    Calls Try.prog 5 #[.agg #[v, u], .string s] w fun e w' => e = .returned (.bool true) ∧ Below w.heap.size w w' := by
  obtain ⟨f1, f2⟩ := Bool.and_eq_true_iff.1 h1
  obtain ⟨la, za⟩ := few_of f1
  obtain ⟨lb, zb⟩ := few_of f2
  clear f1 f2
  obtain ⟨q, hq⟩ : ∃ q, checkF a b = q := ⟨_, rfl⟩
  have hne : (q != 0) = true := by rw [bne_iff_ne, ← hq]; exact h0
  clear h0 la lb
  have H1 := Lib.hid h1
  have ZA := Lib.hid za
  have ZB := Lib.hid zb
  have HQ := Lib.hid hq
  clear h1 za zb hq
  have HV := Lib.hid hv
  have HU := Lib.hid hu
  obtain ⟨va, vc, rfl⟩ := hv.slice
  obtain ⟨ua, uc, rfl⟩ := hu.slice
  clear hv hu
  go_enter Try.func5, Try.ntmps5
  go_wp2_with fail
  have a1 : Below w.heap.size w (w.alloc (.cells #[.slice va a.length vc, .slice ua b.length uc] 24)) := ((Below.refl w.heap.size w).alloc (by first | exact Nat.le_refl _ | (simp only [World.size_alloc]; omega)) (.cells #[.slice va a.length vc, .slice ua b.length uc] 24))
  have T_new0 := (Blk.new w #[.slice va a.length vc, .slice ua b.length uc] 24)
  have KT_00 := Lib.hid T_new0
  clear T_new0
  have V_1 := Lib.hid (HV.out.below a1)
  clear HV
  have U_1 := Lib.hid (HU.out.below a1)
  clear HU
  have B_1 := Lib.hid a1
  clear a1
  generalize (w.alloc (.cells #[.slice va a.length vc, .slice ua b.length uc] 24)) = w1 at V_1 U_1 KT_00 B_1 ⊢
  refine (works_any _).mono ?_
  rintro e w2 ⟨rfl, b2⟩
  have V_2 := Lib.hid (V_1.out.below b2)
  clear V_1
  have U_2 := Lib.hid (U_1.out.below b2)
  clear U_1
  have KT_2 := Lib.hid (KT_00.out.below b2 KT_00.out.lt)
  clear KT_00
  have B_2 := Lib.hid (B_1.out.trans (b2.mono B_1.out.size))
  clear B_1
  clear b2
  have lT_2 : w.heap.size < w2.heap.size := KT_2.out.lt
  have cT_0_2 : w2.cell? ⟨w.heap.size, 0, none⟩ = some (.slice va a.length vc) := KT_2.out.cell 0
  have cT_1_2 : w2.cell? ⟨w.heap.size, 1, none⟩ = some (.slice ua b.length uc) := KT_2.out.cell 1
  go_wp2_with fail
  clear lT_2 cT_0_2 cT_1_2
  refine (few_ex a b _ _ true _ V_2.out U_2.out H1.out).mono ?_
  rintro e w3 ⟨rfl, b3⟩
  have V_3 := Lib.hid (V_2.out.below b3)
  clear V_2
  have U_3 := Lib.hid (U_2.out.below b3)
  clear U_2
  have KT_3 := Lib.hid (KT_2.out.below b3 KT_2.out.lt)
  clear KT_2
  have B_3 := Lib.hid (B_2.out.trans (b3.mono B_2.out.size))
  clear B_2
  clear b3
  have lT_3 : w.heap.size < w3.heap.size := KT_3.out.lt
  have cT_0_3 : w3.cell? ⟨w.heap.size, 0, none⟩ = some (.slice va a.length vc) := KT_3.out.cell 0
  have cT_1_3 : w3.cell? ⟨w.heap.size, 1, none⟩ = some (.slice ua b.length uc) := KT_3.out.cell 1
  go_wp2_with fail
  clear lT_3 cT_0_3 cT_1_3
  refine (check_ex a b _ _ q _ V_3.out U_3.out ZA.out ZB.out HQ.out).mono ?_
  rintro e w4 ⟨rfl, b4⟩
  have V_4 := Lib.hid (V_3.out.below b4)
  clear V_3
  have U_4 := Lib.hid (U_3.out.below b4)
  clear U_3
  have KT_4 := Lib.hid (KT_3.out.below b4 KT_3.out.lt)
  clear KT_3
  have B_4 := Lib.hid (B_3.out.trans (b4.mono B_3.out.size))
  clear B_3
  clear b4
  go_wp2
  go_ret
  exact ⟨rfl, B_4.out⟩

theorem back_tt (a b : List ByteArray) (v u : Value) (s : ByteArray) (w : World) (hv : Lst stc w v a) (hu : Lst stc w u b) (hn : NilFine v) (hn' : NilFine u) (hs : s.size ≤ maxLen) (h1 : (fewB a 210 && fewB b 210) = true) (h0 : checkF a b = 0) (r c : ByteArray) (hr : aheadF a b s = (r, true)) (hc : aheadF b a s = (c, true)) :
    Calls Try.prog 5 #[.agg #[v, u], .string s] w fun e w' => e = .returned (.bool true) ∧ Below w.heap.size w w' := by
  obtain ⟨f1, f2⟩ := Bool.and_eq_true_iff.1 h1
  obtain ⟨la, za⟩ := few_of f1
  obtain ⟨lb, zb⟩ := few_of f2
  clear f1 f2
  have hrz := aheadF_size hr zb
  have hcz := aheadF_size hc za
  have h0' := check_turn.1 h0
  have hb := aheadF_back hr
  have hd := aheadF_back hc
  have H1 := Lib.hid h1
  have ZA := Lib.hid za
  have ZB := Lib.hid zb
  have H0 := Lib.hid h0
  have H0' := Lib.hid h0'
  have HR := Lib.hid hr
  have HC := Lib.hid hc
  have HB := Lib.hid hb
  have HD := Lib.hid hd
  have HS := Lib.hid hs
  have HRZ := Lib.hid hrz
  have HCZ := Lib.hid hcz
  have HN := Lib.hid hn
  have HN' := Lib.hid hn'
  clear h1 za zb h0 h0' hr hc hb hd hs hrz hcz hn hn'
  have HV := Lib.hid hv
  have HU := Lib.hid hu
  obtain ⟨va, vc, rfl⟩ := hv.slice
  obtain ⟨ua, uc, rfl⟩ := hu.slice
  clear hv hu
  go_enter Try.func5, Try.ntmps5
  go_wp2_with fail
  have a1 : Below w.heap.size w (w.alloc (.cells #[.slice va a.length vc, .slice ua b.length uc] 24)) := ((Below.refl w.heap.size w).alloc (by first | exact Nat.le_refl _ | (simp only [World.size_alloc]; omega)) (.cells #[.slice va a.length vc, .slice ua b.length uc] 24))
  have T_new0 := (Blk.new w #[.slice va a.length vc, .slice ua b.length uc] 24)
  have KT_00 := Lib.hid T_new0
  clear T_new0
  have V_1 := Lib.hid (HV.out.below a1)
  clear HV
  have U_1 := Lib.hid (HU.out.below a1)
  clear HU
  have B_1 := Lib.hid a1
  clear a1
  generalize (w.alloc (.cells #[.slice va a.length vc, .slice ua b.length uc] 24)) = w1 at V_1 U_1 KT_00 B_1 ⊢
  refine (works_any _).mono ?_
  rintro e w2 ⟨rfl, b2⟩
  have V_2 := Lib.hid (V_1.out.below b2)
  clear V_1
  have U_2 := Lib.hid (U_1.out.below b2)
  clear U_1
  have KT_2 := Lib.hid (KT_00.out.below b2 KT_00.out.lt)
  clear KT_00
  have B_2 := Lib.hid (B_1.out.trans (b2.mono B_1.out.size))
  clear B_1
  clear b2
  have lT_2 : w.heap.size < w2.heap.size := KT_2.out.lt
  have cT_0_2 : w2.cell? ⟨w.heap.size, 0, none⟩ = some (.slice va a.length vc) := KT_2.out.cell 0
  have cT_1_2 : w2.cell? ⟨w.heap.size, 1, none⟩ = some (.slice ua b.length uc) := KT_2.out.cell 1
  go_wp2_with fail
  clear lT_2 cT_0_2 cT_1_2
  refine (few_ex a b _ _ true _ V_2.out U_2.out H1.out).mono ?_
  rintro e w3 ⟨rfl, b3⟩
  have V_3 := Lib.hid (V_2.out.below b3)
  clear V_2
  have U_3 := Lib.hid (U_2.out.below b3)
  clear U_2
  have KT_3 := Lib.hid (KT_2.out.below b3 KT_2.out.lt)
  clear KT_2
  have B_3 := Lib.hid (B_2.out.trans (b3.mono B_2.out.size))
  clear B_2
  clear b3
  have lT_3 : w.heap.size < w3.heap.size := KT_3.out.lt
  have cT_0_3 : w3.cell? ⟨w.heap.size, 0, none⟩ = some (.slice va a.length vc) := KT_3.out.cell 0
  have cT_1_3 : w3.cell? ⟨w.heap.size, 1, none⟩ = some (.slice ua b.length uc) := KT_3.out.cell 1
  go_wp2_with fail
  clear lT_3 cT_0_3 cT_1_3
  refine (check_ex a b _ _ 0 _ V_3.out U_3.out ZA.out ZB.out H0.out).mono ?_
  rintro e w4 ⟨rfl, b4⟩
  have V_4 := Lib.hid (V_3.out.below b4)
  clear V_3
  have U_4 := Lib.hid (U_3.out.below b4)
  clear U_3
  have KT_4 := Lib.hid (KT_3.out.below b4 KT_3.out.lt)
  clear KT_3
  have B_4 := Lib.hid (B_3.out.trans (b4.mono B_3.out.size))
  clear B_3
  clear b4
  have lT_4 : w.heap.size < w4.heap.size := KT_4.out.lt
  have cT_0_4 : w4.cell? ⟨w.heap.size, 0, none⟩ = some (.slice va a.length vc) := KT_4.out.cell 0
  have cT_1_4 : w4.cell? ⟨w.heap.size, 1, none⟩ = some (.slice ua b.length uc) := KT_4.out.cell 1
  go_wp2_with fail
  clear lT_4 cT_0_4 cT_1_4
  refine (ahead_ex2 a b _ _ s r true _ V_4.out U_4.out ZA.out ZB.out HS.out HR.out).mono ?_
  rintro e w5 ⟨rfl, b5⟩
  have V_5 := Lib.hid (V_4.out.below b5)
  clear V_4
  have U_5 := Lib.hid (U_4.out.below b5)
  clear U_4
  have KT_5 := Lib.hid (KT_4.out.below b5 KT_4.out.lt)
  clear KT_4
  have B_5 := Lib.hid (B_4.out.trans (b5.mono B_4.out.size))
  clear B_4
  clear b5
  have lT_5 : w.heap.size < w5.heap.size := KT_5.out.lt
  have cT_0_5 : w5.cell? ⟨w.heap.size, 0, none⟩ = some (.slice va a.length vc) := KT_5.out.cell 0
  have cT_1_5 : w5.cell? ⟨w.heap.size, 1, none⟩ = some (.slice ua b.length uc) := KT_5.out.cell 1
  go_wp2_with fail
  clear lT_5 cT_0_5 cT_1_5
  refine (back_ex2 a b _ _ r s true _ V_5.out U_5.out ZA.out ZB.out HRZ.out HB.out).mono ?_
  rintro e w6 ⟨rfl, b6⟩
  have V_6 := Lib.hid (V_5.out.below b6)
  clear V_5
  have U_6 := Lib.hid (U_5.out.below b6)
  clear U_5
  have KT_6 := Lib.hid (KT_5.out.below b6 KT_5.out.lt)
  clear KT_5
  have B_6 := Lib.hid (B_5.out.trans (b6.mono B_5.out.size))
  clear B_5
  clear b6
  have lT_6 : w.heap.size < w6.heap.size := KT_6.out.lt
  have cT_0_6 : w6.cell? ⟨w.heap.size, 0, none⟩ = some (.slice va a.length vc) := KT_6.out.cell 0
  have cT_1_6 : w6.cell? ⟨w.heap.size, 1, none⟩ = some (.slice ua b.length uc) := KT_6.out.cell 1
  go_wp2_with fail
  clear lT_6 cT_0_6 cT_1_6
  refine (back_ex2 a b _ _ s c true _ V_6.out U_6.out ZA.out ZB.out HS.out HC.out).mono ?_
  rintro e w7 ⟨rfl, b7⟩
  have V_7 := Lib.hid (V_6.out.below b7)
  clear V_6
  have U_7 := Lib.hid (U_6.out.below b7)
  clear U_6
  have KT_7 := Lib.hid (KT_6.out.below b7 KT_6.out.lt)
  clear KT_6
  have B_7 := Lib.hid (B_6.out.trans (b7.mono B_6.out.size))
  clear B_6
  clear b7
  have lT_7 : w.heap.size < w7.heap.size := KT_7.out.lt
  have cT_0_7 : w7.cell? ⟨w.heap.size, 0, none⟩ = some (.slice va a.length vc) := KT_7.out.cell 0
  have cT_1_7 : w7.cell? ⟨w.heap.size, 1, none⟩ = some (.slice ua b.length uc) := KT_7.out.cell 1
  go_wp2_with fail
  clear lT_7 cT_0_7 cT_1_7
  refine (ahead_ex2 a b _ _ c s true _ V_7.out U_7.out ZA.out ZB.out HCZ.out HD.out).mono ?_
  rintro e w8 ⟨rfl, b8⟩
  have V_8 := Lib.hid (V_7.out.below b8)
  clear V_7
  have U_8 := Lib.hid (U_7.out.below b8)
  clear U_7
  have KT_8 := Lib.hid (KT_7.out.below b8 KT_7.out.lt)
  clear KT_7
  have B_8 := Lib.hid (B_7.out.trans (b8.mono B_7.out.size))
  clear B_7
  clear b8
  have lT_8 : w.heap.size < w8.heap.size := KT_8.out.lt
  have cT_0_8 : w8.cell? ⟨w.heap.size, 0, none⟩ = some (.slice va a.length vc) := KT_8.out.cell 0
  have cT_1_8 : w8.cell? ⟨w.heap.size, 1, none⟩ = some (.slice ua b.length uc) := KT_8.out.cell 1
  go_wp2_with fail
  clear lT_8 cT_0_8 cT_1_8
  refine (inv_ex a b _ _ 0 _ V_8.out U_8.out ZA.out ZB.out HN.out HN'.out H0'.out).mono ?_
  rintro e w9 ⟨V1, rfl, ht, b9⟩
  have V_9 := Lib.hid (V_8.out.below b9)
  clear V_8
  have U_9 := Lib.hid (U_8.out.below b9)
  clear U_8
  have KT_9 := Lib.hid (KT_8.out.below b9 KT_8.out.lt)
  clear KT_8
  have B_9 := Lib.hid (B_8.out.trans (b9.mono B_8.out.size))
  clear B_8
  clear b9
  rw [okL_yes rfl, okL_yes rfl] at ht
  obtain ⟨x1, x2, rfl, r1, r2⟩ := ht
  obtain ⟨xa, xc, rfl⟩ := row_slice r1
  obtain ⟨ya, yc, rfl⟩ := row_slice r2
  have X1 := Lib.hid r1
  clear r1
  have X2 := Lib.hid r2
  clear r2
  go_wp2_with fail
  have a2 : Below w9.heap.size w9 (w9.alloc (.cells #[.slice xa b.length xc, .slice ya a.length yc] 24)) := ((Below.refl w9.heap.size w9).alloc (by first | exact Nat.le_refl _ | (simp only [World.size_alloc]; omega)) (.cells #[.slice xa b.length xc, .slice ya a.length yc] 24))
  have X_new9 := (Blk.new w9 #[.slice xa b.length xc, .slice ya a.length yc] 24)
  have KX_09 := Lib.hid X_new9
  clear X_new9
  have V_10 := Lib.hid (V_9.out.below a2)
  clear V_9
  have U_10 := Lib.hid (U_9.out.below a2)
  clear U_9
  have X1_10 := Lib.hid (row_below X1.out a2)
  clear X1
  have X2_10 := Lib.hid (row_below X2.out a2)
  clear X2
  have KT_10 := Lib.hid (KT_9.out.below a2 KT_9.out.lt)
  clear KT_9
  have B_10 := Lib.hid (B_9.out.trans (a2.mono B_9.out.size))
  clear B_9
  clear a2
  generalize (w9.alloc (.cells #[.slice xa b.length xc, .slice ya a.length yc] 24)) = w10 at V_10 U_10 X1_10 X2_10 KT_10 KX_09 B_10 ⊢
  refine (ahead_ex2 b a _ _ s c true _ (Lst.of_row X1_10.out) (Lst.of_row X2_10.out) ZB.out ZA.out HS.out HC.out).mono ?_
  rintro e w11 ⟨rfl, b11⟩
  have V_11 := Lib.hid (V_10.out.below b11)
  clear V_10
  have U_11 := Lib.hid (U_10.out.below b11)
  clear U_10
  have X1_11 := Lib.hid (row_below X1_10.out b11)
  clear X1_10
  have X2_11 := Lib.hid (row_below X2_10.out b11)
  clear X2_10
  have KT_11 := Lib.hid (KT_10.out.below b11 KT_10.out.lt)
  clear KT_10
  have KX_11 := Lib.hid (KX_09.out.below b11 KX_09.out.lt)
  clear KX_09
  have B_11 := Lib.hid (B_10.out.trans (b11.mono B_10.out.size))
  clear B_10
  clear b11
  go_wp2_with fail
  have hss : (s.toList == s.toList) = true := beq_self_eq_true _
  have hcc : (c.toList == c.toList) = true := beq_self_eq_true _
  have HS12 : Hid (∀ X : World, Below w11.heap.size w11 X → X.cell? ⟨w.heap.size, 0, none⟩ = some (.slice va a.length vc) ∧ X.cell? ⟨w.heap.size, 1, none⟩ = some (.slice ua b.length uc) ∧ X.cell? ⟨w9.heap.size, 0, none⟩ = some (.slice xa b.length xc) ∧ X.cell? ⟨w9.heap.size, 1, none⟩ = some (.slice ya a.length yc) ∧ Below w11.heap.size w11 X) := Lib.hid fun X h => ⟨(h.cell (p := ⟨w.heap.size, 0, none⟩) KT_11.out.lt).trans (KT_11.out.cell 0), (h.cell (p := ⟨w.heap.size, 1, none⟩) KT_11.out.lt).trans (KT_11.out.cell 1), (h.cell (p := ⟨w9.heap.size, 0, none⟩) KX_11.out.lt).trans (KX_11.out.cell 0), (h.cell (p := ⟨w9.heap.size, 1, none⟩) KX_11.out.lt).trans (KX_11.out.cell 1), h⟩
  refine wp_region_held_drew (S := fun X => X.cell? ⟨w.heap.size, 0, none⟩ = some (.slice va a.length vc) ∧ X.cell? ⟨w.heap.size, 1, none⟩ = some (.slice ua b.length uc) ∧ X.cell? ⟨w9.heap.size, 0, none⟩ = some (.slice xa b.length xc) ∧ X.cell? ⟨w9.heap.size, 1, none⟩ = some (.slice ya a.length yc) ∧ Below w11.heap.size w11 X) (by kernel_rfl) (HS12.out _ (Below.refl _ _).drew) (fun hHeld => ?_)
  try (first | (refine take_yes (i := 0) (v := ?_) rfl (by kernel_rfl) (by decide +kernel) (by decide +kernel) (fun _ _ _ h => h) (by rfl) ?_ (by assumption) ?_; rotate_left; intro w hSw; (try dsimp only at hSw); go_simp; with_reducible rfl; simp only [Act.put, List.setIfInBounds_toArray, List.set_cons_zero, List.set_cons_succ]) | (refine take_no (i := 0) rfl (by kernel_rfl) (by decide +kernel) (by decide +kernel) (fun _ _ _ h => h) (by rfl) (by assumption) ?_; simp only [Act.put, List.setIfInBounds_toArray, List.set_cons_zero, List.set_cons_succ]))
  try (first | (refine take_yes (i := 1) (v := ?_) rfl (by kernel_rfl) (by decide +kernel) (by decide +kernel) (fun _ _ _ h => h) (by rfl) ?_ (by assumption) ?_; rotate_left; intro w hSw; (try dsimp only at hSw); go_simp; with_reducible rfl; simp only [Act.put, List.setIfInBounds_toArray, List.set_cons_zero, List.set_cons_succ]) | (refine take_no (i := 1) rfl (by kernel_rfl) (by decide +kernel) (by decide +kernel) (fun _ _ _ h => h) (by rfl) (by assumption) ?_; simp only [Act.put, List.setIfInBounds_toArray, List.set_cons_zero, List.set_cons_succ]))
  try (first | (refine take_yes (i := 2) (v := ?_) rfl (by kernel_rfl) (by decide +kernel) (by decide +kernel) (fun _ _ _ h => h) (by rfl) ?_ (by assumption) ?_; rotate_left; intro w hSw; (try dsimp only at hSw); go_simp; with_reducible rfl; simp only [Act.put, List.setIfInBounds_toArray, List.set_cons_zero, List.set_cons_succ]) | (refine take_no (i := 2) rfl (by kernel_rfl) (by decide +kernel) (by decide +kernel) (fun _ _ _ h => h) (by rfl) (by assumption) ?_; simp only [Act.put, List.setIfInBounds_toArray, List.set_cons_zero, List.set_cons_succ]))
  try (first | (refine take_yes (i := 3) (v := ?_) rfl (by kernel_rfl) (by decide +kernel) (by decide +kernel) (fun _ _ _ h => h) (by rfl) ?_ (by assumption) ?_; rotate_left; intro w hSw; (try dsimp only at hSw); go_simp; with_reducible rfl; simp only [Act.put, List.setIfInBounds_toArray, List.set_cons_zero, List.set_cons_succ]) | (refine take_no (i := 3) rfl (by kernel_rfl) (by decide +kernel) (by decide +kernel) (fun _ _ _ h => h) (by rfl) (by assumption) ?_; simp only [Act.put, List.setIfInBounds_toArray, List.set_cons_zero, List.set_cons_succ]))
  try (first | (refine take_yes (i := 4) (v := ?_) rfl (by kernel_rfl) (by decide +kernel) (by decide +kernel) (fun _ _ _ h => h) (by rfl) ?_ (by assumption) ?_; rotate_left; intro w hSw; (try dsimp only at hSw); go_simp; with_reducible rfl; simp only [Act.put, List.setIfInBounds_toArray, List.set_cons_zero, List.set_cons_succ]) | (refine take_no (i := 4) rfl (by kernel_rfl) (by decide +kernel) (by decide +kernel) (fun _ _ _ h => h) (by rfl) (by assumption) ?_; simp only [Act.put, List.setIfInBounds_toArray, List.set_cons_zero, List.set_cons_succ]))
  try (first | (refine take_yes (i := 5) (v := ?_) rfl (by kernel_rfl) (by decide +kernel) (by decide +kernel) (fun _ _ _ h => h) (by rfl) ?_ (by assumption) ?_; rotate_left; intro w hSw; (try dsimp only at hSw); go_simp; with_reducible rfl; simp only [Act.put, List.setIfInBounds_toArray, List.set_cons_zero, List.set_cons_succ]) | (refine take_no (i := 5) rfl (by kernel_rfl) (by decide +kernel) (by decide +kernel) (fun _ _ _ h => h) (by rfl) (by assumption) ?_; simp only [Act.put, List.setIfInBounds_toArray, List.set_cons_zero, List.set_cons_succ]))
  try (first | (refine take_yes (i := 6) (v := ?_) rfl (by kernel_rfl) (by decide +kernel) (by decide +kernel) (fun _ _ _ h => h) (by rfl) ?_ (by assumption) ?_; rotate_left; intro w hSw; (try dsimp only at hSw); go_simp; with_reducible rfl; simp only [Act.put, List.setIfInBounds_toArray, List.set_cons_zero, List.set_cons_succ]) | (refine take_no (i := 6) rfl (by kernel_rfl) (by decide +kernel) (by decide +kernel) (fun _ _ _ h => h) (by rfl) (by assumption) ?_; simp only [Act.put, List.setIfInBounds_toArray, List.set_cons_zero, List.set_cons_succ]))
  try (first | (refine take_yes (i := 7) (v := ?_) rfl (by kernel_rfl) (by decide +kernel) (by decide +kernel) (fun _ _ _ h => h) (by rfl) ?_ (by assumption) ?_; rotate_left; intro w hSw; (try dsimp only at hSw); go_simp; with_reducible rfl; simp only [Act.put, List.setIfInBounds_toArray, List.set_cons_zero, List.set_cons_succ]) | (refine take_no (i := 7) rfl (by kernel_rfl) (by decide +kernel) (by decide +kernel) (fun _ _ _ h => h) (by rfl) (by assumption) ?_; simp only [Act.put, List.setIfInBounds_toArray, List.set_cons_zero, List.set_cons_succ]))
  try (first | (refine take_yes (i := 8) (v := ?_) rfl (by kernel_rfl) (by decide +kernel) (by decide +kernel) (fun _ _ _ h => h) (by rfl) ?_ (by assumption) ?_; rotate_left; intro w hSw; (try dsimp only at hSw); go_simp; with_reducible rfl; simp only [Act.put, List.setIfInBounds_toArray, List.set_cons_zero, List.set_cons_succ]) | (refine take_no (i := 8) rfl (by kernel_rfl) (by decide +kernel) (by decide +kernel) (fun _ _ _ h => h) (by rfl) (by assumption) ?_; simp only [Act.put, List.setIfInBounds_toArray, List.set_cons_zero, List.set_cons_succ]))
  try (first | (refine take_yes (i := 9) (v := ?_) rfl (by kernel_rfl) (by decide +kernel) (by decide +kernel) (fun _ _ _ h => h) (by rfl) ?_ (by assumption) ?_; rotate_left; intro w hSw; (try dsimp only at hSw); go_simp; with_reducible rfl; simp only [Act.put, List.setIfInBounds_toArray, List.set_cons_zero, List.set_cons_succ]) | (refine take_no (i := 9) rfl (by kernel_rfl) (by decide +kernel) (by decide +kernel) (fun _ _ _ h => h) (by rfl) (by assumption) ?_; simp only [Act.put, List.setIfInBounds_toArray, List.set_cons_zero, List.set_cons_succ]))
  try (first | (refine take_yes (i := 10) (v := ?_) rfl (by kernel_rfl) (by decide +kernel) (by decide +kernel) (fun _ _ _ h => h) (by rfl) ?_ (by assumption) ?_; rotate_left; intro w hSw; (try dsimp only at hSw); go_simp; with_reducible rfl; simp only [Act.put, List.setIfInBounds_toArray, List.set_cons_zero, List.set_cons_succ]) | (refine take_no (i := 10) rfl (by kernel_rfl) (by decide +kernel) (by decide +kernel) (fun _ _ _ h => h) (by rfl) (by assumption) ?_; simp only [Act.put, List.setIfInBounds_toArray, List.set_cons_zero, List.set_cons_succ]))
  try (first | (refine take_yes (i := 11) (v := ?_) rfl (by kernel_rfl) (by decide +kernel) (by decide +kernel) (fun _ _ _ h => h) (by rfl) ?_ (by assumption) ?_; rotate_left; intro w hSw; (try dsimp only at hSw); go_simp; with_reducible rfl; simp only [Act.put, List.setIfInBounds_toArray, List.set_cons_zero, List.set_cons_succ]) | (refine take_no (i := 11) rfl (by kernel_rfl) (by decide +kernel) (by decide +kernel) (fun _ _ _ h => h) (by rfl) (by assumption) ?_; simp only [Act.put, List.setIfInBounds_toArray, List.set_cons_zero, List.set_cons_succ]))
  try (first | (refine take_yes (i := 12) (v := ?_) rfl (by kernel_rfl) (by decide +kernel) (by decide +kernel) (fun _ _ _ h => h) (by rfl) ?_ (by assumption) ?_; rotate_left; intro w hSw; (try dsimp only at hSw); go_simp; with_reducible rfl; simp only [Act.put, List.setIfInBounds_toArray, List.set_cons_zero, List.set_cons_succ]) | (refine take_no (i := 12) rfl (by kernel_rfl) (by decide +kernel) (by decide +kernel) (fun _ _ _ h => h) (by rfl) (by assumption) ?_; simp only [Act.put, List.setIfInBounds_toArray, List.set_cons_zero, List.set_cons_succ]))
  try (first | (refine take_yes (i := 13) (v := ?_) rfl (by kernel_rfl) (by decide +kernel) (by decide +kernel) (fun _ _ _ h => h) (by rfl) ?_ (by assumption) ?_; rotate_left; intro w hSw; (try dsimp only at hSw); go_simp; with_reducible rfl; simp only [Act.put, List.setIfInBounds_toArray, List.set_cons_zero, List.set_cons_succ]) | (refine take_no (i := 13) rfl (by kernel_rfl) (by decide +kernel) (by decide +kernel) (fun _ _ _ h => h) (by rfl) (by assumption) ?_; simp only [Act.put, List.setIfInBounds_toArray, List.set_cons_zero, List.set_cons_succ]))
  try (first | (refine take_yes (i := 14) (v := ?_) rfl (by kernel_rfl) (by decide +kernel) (by decide +kernel) (fun _ _ _ h => h) (by rfl) ?_ (by assumption) ?_; rotate_left; intro w hSw; (try dsimp only at hSw); go_simp; with_reducible rfl; simp only [Act.put, List.setIfInBounds_toArray, List.set_cons_zero, List.set_cons_succ]) | (refine take_no (i := 14) rfl (by kernel_rfl) (by decide +kernel) (by decide +kernel) (fun _ _ _ h => h) (by rfl) (by assumption) ?_; simp only [Act.put, List.setIfInBounds_toArray, List.set_cons_zero, List.set_cons_succ]))
  try (first | (refine take_yes (i := 15) (v := ?_) rfl (by kernel_rfl) (by decide +kernel) (by decide +kernel) (fun _ _ _ h => h) (by rfl) ?_ (by assumption) ?_; rotate_left; intro w hSw; (try dsimp only at hSw); go_simp; with_reducible rfl; simp only [Act.put, List.setIfInBounds_toArray, List.set_cons_zero, List.set_cons_succ]) | (refine take_no (i := 15) rfl (by kernel_rfl) (by decide +kernel) (by decide +kernel) (fun _ _ _ h => h) (by rfl) (by assumption) ?_; simp only [Act.put, List.setIfInBounds_toArray, List.set_cons_zero, List.set_cons_succ]))
  try (first | (refine take_yes (i := 16) (v := ?_) rfl (by kernel_rfl) (by decide +kernel) (by decide +kernel) (fun _ _ _ h => h) (by rfl) ?_ (by assumption) ?_; rotate_left; intro w hSw; (try dsimp only at hSw); go_simp; with_reducible rfl; simp only [Act.put, List.setIfInBounds_toArray, List.set_cons_zero, List.set_cons_succ]) | (refine take_no (i := 16) rfl (by kernel_rfl) (by decide +kernel) (by decide +kernel) (fun _ _ _ h => h) (by rfl) (by assumption) ?_; simp only [Act.put, List.setIfInBounds_toArray, List.set_cons_zero, List.set_cons_succ]))
  try (first | (refine take_yes (i := 17) (v := ?_) rfl (by kernel_rfl) (by decide +kernel) (by decide +kernel) (fun _ _ _ h => h) (by rfl) ?_ (by assumption) ?_; rotate_left; intro w hSw; (try dsimp only at hSw); go_simp; with_reducible rfl; simp only [Act.put, List.setIfInBounds_toArray, List.set_cons_zero, List.set_cons_succ]) | (refine take_no (i := 17) rfl (by kernel_rfl) (by decide +kernel) (by decide +kernel) (fun _ _ _ h => h) (by rfl) (by assumption) ?_; simp only [Act.put, List.setIfInBounds_toArray, List.set_cons_zero, List.set_cons_succ]))
  try (first | (refine take_yes (i := 18) (v := ?_) rfl (by kernel_rfl) (by decide +kernel) (by decide +kernel) (fun _ _ _ h => h) (by rfl) ?_ (by assumption) ?_; rotate_left; intro w hSw; (try dsimp only at hSw); go_simp; with_reducible rfl; simp only [Act.put, List.setIfInBounds_toArray, List.set_cons_zero, List.set_cons_succ]) | (refine take_no (i := 18) rfl (by kernel_rfl) (by decide +kernel) (by decide +kernel) (fun _ _ _ h => h) (by rfl) (by assumption) ?_; simp only [Act.put, List.setIfInBounds_toArray, List.set_cons_zero, List.set_cons_succ]))
  try (first | (refine take_yes (i := 19) (v := ?_) rfl (by kernel_rfl) (by decide +kernel) (by decide +kernel) (fun _ _ _ h => h) (by rfl) ?_ (by assumption) ?_; rotate_left; intro w hSw; (try dsimp only at hSw); go_simp; with_reducible rfl; simp only [Act.put, List.setIfInBounds_toArray, List.set_cons_zero, List.set_cons_succ]) | (refine take_no (i := 19) rfl (by kernel_rfl) (by decide +kernel) (by decide +kernel) (fun _ _ _ h => h) (by rfl) (by assumption) ?_; simp only [Act.put, List.setIfInBounds_toArray, List.set_cons_zero, List.set_cons_succ]))
  try (first | (refine take_yes (i := 20) (v := ?_) rfl (by kernel_rfl) (by decide +kernel) (by decide +kernel) (fun _ _ _ h => h) (by rfl) ?_ (by assumption) ?_; rotate_left; intro w hSw; (try dsimp only at hSw); go_simp; with_reducible rfl; simp only [Act.put, List.setIfInBounds_toArray, List.set_cons_zero, List.set_cons_succ]) | (refine take_no (i := 20) rfl (by kernel_rfl) (by decide +kernel) (by decide +kernel) (fun _ _ _ h => h) (by rfl) (by assumption) ?_; simp only [Act.put, List.setIfInBounds_toArray, List.set_cons_zero, List.set_cons_succ]))
  try (first | (refine take_yes (i := 21) (v := ?_) rfl (by kernel_rfl) (by decide +kernel) (by decide +kernel) (fun _ _ _ h => h) (by rfl) ?_ (by assumption) ?_; rotate_left; intro w hSw; (try dsimp only at hSw); go_simp; with_reducible rfl; simp only [Act.put, List.setIfInBounds_toArray, List.set_cons_zero, List.set_cons_succ]) | (refine take_no (i := 21) rfl (by kernel_rfl) (by decide +kernel) (by decide +kernel) (fun _ _ _ h => h) (by rfl) (by assumption) ?_; simp only [Act.put, List.setIfInBounds_toArray, List.set_cons_zero, List.set_cons_succ]))
  try (first | (refine take_yes (i := 22) (v := ?_) rfl (by kernel_rfl) (by decide +kernel) (by decide +kernel) (fun _ _ _ h => h) (by rfl) ?_ (by assumption) ?_; rotate_left; intro w hSw; (try dsimp only at hSw); go_simp; with_reducible rfl; simp only [Act.put, List.setIfInBounds_toArray, List.set_cons_zero, List.set_cons_succ]) | (refine take_no (i := 22) rfl (by kernel_rfl) (by decide +kernel) (by decide +kernel) (fun _ _ _ h => h) (by rfl) (by assumption) ?_; simp only [Act.put, List.setIfInBounds_toArray, List.set_cons_zero, List.set_cons_succ]))
  try (first | (refine take_yes (i := 23) (v := ?_) rfl (by kernel_rfl) (by decide +kernel) (by decide +kernel) (fun _ _ _ h => h) (by rfl) ?_ (by assumption) ?_; rotate_left; intro w hSw; (try dsimp only at hSw); go_simp; with_reducible rfl; simp only [Act.put, List.setIfInBounds_toArray, List.set_cons_zero, List.set_cons_succ]) | (refine take_no (i := 23) rfl (by kernel_rfl) (by decide +kernel) (by decide +kernel) (fun _ _ _ h => h) (by rfl) (by assumption) ?_; simp only [Act.put, List.setIfInBounds_toArray, List.set_cons_zero, List.set_cons_succ]))
  try (first | (refine take_yes (i := 24) (v := ?_) rfl (by kernel_rfl) (by decide +kernel) (by decide +kernel) (fun _ _ _ h => h) (by rfl) ?_ (by assumption) ?_; rotate_left; intro w hSw; (try dsimp only at hSw); go_simp; with_reducible rfl; simp only [Act.put, List.setIfInBounds_toArray, List.set_cons_zero, List.set_cons_succ]) | (refine take_no (i := 24) rfl (by kernel_rfl) (by decide +kernel) (by decide +kernel) (fun _ _ _ h => h) (by rfl) (by assumption) ?_; simp only [Act.put, List.setIfInBounds_toArray, List.set_cons_zero, List.set_cons_succ]))
  try (first | (refine take_yes (i := 25) (v := ?_) rfl (by kernel_rfl) (by decide +kernel) (by decide +kernel) (fun _ _ _ h => h) (by rfl) ?_ (by assumption) ?_; rotate_left; intro w hSw; (try dsimp only at hSw); go_simp; with_reducible rfl; simp only [Act.put, List.setIfInBounds_toArray, List.set_cons_zero, List.set_cons_succ]) | (refine take_no (i := 25) rfl (by kernel_rfl) (by decide +kernel) (by decide +kernel) (fun _ _ _ h => h) (by rfl) (by assumption) ?_; simp only [Act.put, List.setIfInBounds_toArray, List.set_cons_zero, List.set_cons_succ]))
  try (first | (refine take_yes (i := 26) (v := ?_) rfl (by kernel_rfl) (by decide +kernel) (by decide +kernel) (fun _ _ _ h => h) (by rfl) ?_ (by assumption) ?_; rotate_left; intro w hSw; (try dsimp only at hSw); go_simp; with_reducible rfl; simp only [Act.put, List.setIfInBounds_toArray, List.set_cons_zero, List.set_cons_succ]) | (refine take_no (i := 26) rfl (by kernel_rfl) (by decide +kernel) (by decide +kernel) (fun _ _ _ h => h) (by rfl) (by assumption) ?_; simp only [Act.put, List.setIfInBounds_toArray, List.set_cons_zero, List.set_cons_succ]))
  try (first | (refine take_yes (i := 27) (v := ?_) rfl (by kernel_rfl) (by decide +kernel) (by decide +kernel) (fun _ _ _ h => h) (by rfl) ?_ (by assumption) ?_; rotate_left; intro w hSw; (try dsimp only at hSw); go_simp; with_reducible rfl; simp only [Act.put, List.setIfInBounds_toArray, List.set_cons_zero, List.set_cons_succ]) | (refine take_no (i := 27) rfl (by kernel_rfl) (by decide +kernel) (by decide +kernel) (fun _ _ _ h => h) (by rfl) (by assumption) ?_; simp only [Act.put, List.setIfInBounds_toArray, List.set_cons_zero, List.set_cons_succ]))
  try (first | (refine take_yes (i := 28) (v := ?_) rfl (by kernel_rfl) (by decide +kernel) (by decide +kernel) (fun _ _ _ h => h) (by rfl) ?_ (by assumption) ?_; rotate_left; intro w hSw; (try dsimp only at hSw); go_simp; with_reducible rfl; simp only [Act.put, List.setIfInBounds_toArray, List.set_cons_zero, List.set_cons_succ]) | (refine take_no (i := 28) rfl (by kernel_rfl) (by decide +kernel) (by decide +kernel) (fun _ _ _ h => h) (by rfl) (by assumption) ?_; simp only [Act.put, List.setIfInBounds_toArray, List.set_cons_zero, List.set_cons_succ]))
  try (first | (refine take_yes (i := 29) (v := ?_) rfl (by kernel_rfl) (by decide +kernel) (by decide +kernel) (fun _ _ _ h => h) (by rfl) ?_ (by assumption) ?_; rotate_left; intro w hSw; (try dsimp only at hSw); go_simp; with_reducible rfl; simp only [Act.put, List.setIfInBounds_toArray, List.set_cons_zero, List.set_cons_succ]) | (refine take_no (i := 29) rfl (by kernel_rfl) (by decide +kernel) (by decide +kernel) (fun _ _ _ h => h) (by rfl) (by assumption) ?_; simp only [Act.put, List.setIfInBounds_toArray, List.set_cons_zero, List.set_cons_succ]))
  try (first | (refine take_yes (i := 30) (v := ?_) rfl (by kernel_rfl) (by decide +kernel) (by decide +kernel) (fun _ _ _ h => h) (by rfl) ?_ (by assumption) ?_; rotate_left; intro w hSw; (try dsimp only at hSw); go_simp; with_reducible rfl; simp only [Act.put, List.setIfInBounds_toArray, List.set_cons_zero, List.set_cons_succ]) | (refine take_no (i := 30) rfl (by kernel_rfl) (by decide +kernel) (by decide +kernel) (fun _ _ _ h => h) (by rfl) (by assumption) ?_; simp only [Act.put, List.setIfInBounds_toArray, List.set_cons_zero, List.set_cons_succ]))
  try (first | (refine take_yes (i := 31) (v := ?_) rfl (by kernel_rfl) (by decide +kernel) (by decide +kernel) (fun _ _ _ h => h) (by rfl) ?_ (by assumption) ?_; rotate_left; intro w hSw; (try dsimp only at hSw); go_simp; with_reducible rfl; simp only [Act.put, List.setIfInBounds_toArray, List.set_cons_zero, List.set_cons_succ]) | (refine take_no (i := 31) rfl (by kernel_rfl) (by decide +kernel) (by decide +kernel) (fun _ _ _ h => h) (by rfl) (by assumption) ?_; simp only [Act.put, List.setIfInBounds_toArray, List.set_cons_zero, List.set_cons_succ]))
  try (first | (refine take_yes (i := 32) (v := ?_) rfl (by kernel_rfl) (by decide +kernel) (by decide +kernel) (fun _ _ _ h => h) (by rfl) ?_ (by assumption) ?_; rotate_left; intro w hSw; (try dsimp only at hSw); go_simp; with_reducible rfl; simp only [Act.put, List.setIfInBounds_toArray, List.set_cons_zero, List.set_cons_succ]) | (refine take_no (i := 32) rfl (by kernel_rfl) (by decide +kernel) (by decide +kernel) (fun _ _ _ h => h) (by rfl) (by assumption) ?_; simp only [Act.put, List.setIfInBounds_toArray, List.set_cons_zero, List.set_cons_succ]))
  try (first | (refine take_yes (i := 33) (v := ?_) rfl (by kernel_rfl) (by decide +kernel) (by decide +kernel) (fun _ _ _ h => h) (by rfl) ?_ (by assumption) ?_; rotate_left; intro w hSw; (try dsimp only at hSw); go_simp; with_reducible rfl; simp only [Act.put, List.setIfInBounds_toArray, List.set_cons_zero, List.set_cons_succ]) | (refine take_no (i := 33) rfl (by kernel_rfl) (by decide +kernel) (by decide +kernel) (fun _ _ _ h => h) (by rfl) (by assumption) ?_; simp only [Act.put, List.setIfInBounds_toArray, List.set_cons_zero, List.set_cons_succ]))
  try (first | (refine take_yes (i := 34) (v := ?_) rfl (by kernel_rfl) (by decide +kernel) (by decide +kernel) (fun _ _ _ h => h) (by rfl) ?_ (by assumption) ?_; rotate_left; intro w hSw; (try dsimp only at hSw); go_simp; with_reducible rfl; simp only [Act.put, List.setIfInBounds_toArray, List.set_cons_zero, List.set_cons_succ]) | (refine take_no (i := 34) rfl (by kernel_rfl) (by decide +kernel) (by decide +kernel) (fun _ _ _ h => h) (by rfl) (by assumption) ?_; simp only [Act.put, List.setIfInBounds_toArray, List.set_cons_zero, List.set_cons_succ]))
  try (first | (refine take_yes (i := 35) (v := ?_) rfl (by kernel_rfl) (by decide +kernel) (by decide +kernel) (fun _ _ _ h => h) (by rfl) ?_ (by assumption) ?_; rotate_left; intro w hSw; (try dsimp only at hSw); go_simp; with_reducible rfl; simp only [Act.put, List.setIfInBounds_toArray, List.set_cons_zero, List.set_cons_succ]) | (refine take_no (i := 35) rfl (by kernel_rfl) (by decide +kernel) (by decide +kernel) (fun _ _ _ h => h) (by rfl) (by assumption) ?_; simp only [Act.put, List.setIfInBounds_toArray, List.set_cons_zero, List.set_cons_succ]))
  try (first | (refine take_yes (i := 36) (v := ?_) rfl (by kernel_rfl) (by decide +kernel) (by decide +kernel) (fun _ _ _ h => h) (by rfl) ?_ (by assumption) ?_; rotate_left; intro w hSw; (try dsimp only at hSw); go_simp; with_reducible rfl; simp only [Act.put, List.setIfInBounds_toArray, List.set_cons_zero, List.set_cons_succ]) | (refine take_no (i := 36) rfl (by kernel_rfl) (by decide +kernel) (by decide +kernel) (fun _ _ _ h => h) (by rfl) (by assumption) ?_; simp only [Act.put, List.setIfInBounds_toArray, List.set_cons_zero, List.set_cons_succ]))
  try (first | (refine take_yes (i := 38) (v := ?_) rfl (by kernel_rfl) (by decide +kernel) (by decide +kernel) (fun _ _ _ h => h) (by rfl) ?_ (by assumption) ?_; rotate_left; intro w hSw; (try dsimp only at hSw); go_simp; with_reducible rfl; simp only [Act.put, List.setIfInBounds_toArray, List.set_cons_zero, List.set_cons_succ]) | (refine take_no (i := 38) rfl (by kernel_rfl) (by decide +kernel) (by decide +kernel) (fun _ _ _ h => h) (by rfl) (by assumption) ?_; simp only [Act.put, List.setIfInBounds_toArray, List.set_cons_zero, List.set_cons_succ]))
  try (first | (refine take_yes (i := 40) (v := ?_) rfl (by kernel_rfl) (by decide +kernel) (by decide +kernel) (fun _ _ _ h => h) (by rfl) ?_ (by assumption) ?_; rotate_left; intro w hSw; (try dsimp only at hSw); go_simp; with_reducible rfl; simp only [Act.put, List.setIfInBounds_toArray, List.set_cons_zero, List.set_cons_succ]) | (refine take_no (i := 40) rfl (by kernel_rfl) (by decide +kernel) (by decide +kernel) (fun _ _ _ h => h) (by rfl) (by assumption) ?_; simp only [Act.put, List.setIfInBounds_toArray, List.set_cons_zero, List.set_cons_succ]))
  try (first | (refine take_yes (i := 41) (v := ?_) rfl (by kernel_rfl) (by decide +kernel) (by decide +kernel) (fun _ _ _ h => h) (by rfl) ?_ (by assumption) ?_; rotate_left; intro w hSw; (try dsimp only at hSw); go_simp; with_reducible rfl; simp only [Act.put, List.setIfInBounds_toArray, List.set_cons_zero, List.set_cons_succ]) | (refine take_no (i := 41) rfl (by kernel_rfl) (by decide +kernel) (by decide +kernel) (fun _ _ _ h => h) (by rfl) (by assumption) ?_; simp only [Act.put, List.setIfInBounds_toArray, List.set_cons_zero, List.set_cons_succ]))
  refine take_this (i := 37) (by decide +kernel) rfl (by rfl) (fun K hK => ?_)
  go_simp
  go_at_call 27; (with_reducible refine (inv_ex b a _ _ 0 _ (Lst.of_row (ec := stc) (l := b) (row_below X1_11.out (Below.refl _ _).drew)) (Lst.of_row (ec := stc) (l := a) (row_below X2_11.out (Below.refl _ _).drew)) ZB.out ZA.out (nilFine_row X1_11.out) (nilFine_row X2_11.out) H0.out).mono ?_); rintro e w12 ⟨V2, rfl, ht, hb⟩
  have rB12 : Below w11.heap.size w11 w12 := ((Below.refl w11.heap.size w11).drew).trans (hb.mono (Nat.le_refl _))
  rw [okL_yes rfl, okL_yes rfl] at ht
  obtain ⟨x1, x2, rfl, q1, q2⟩ := ht
  obtain ⟨za, zc, rfl⟩ := row_slice q1
  obtain ⟨wa, wc, rfl⟩ := row_slice q2
  clear hb
  try go_simp
  refine hK.out _ _ (HS12.out _ rB12) (fun hHeld => ?_)
  clear hK
  try simp only [Act.put, List.setIfInBounds_toArray, List.set_cons_zero, List.set_cons_succ]
  try (first | (refine take_yes (i := 38) (v := ?_) rfl (by kernel_rfl) (by decide +kernel) (by decide +kernel) (fun _ _ _ h => h) (by rfl) ?_ (by assumption) ?_; rotate_left; intro w hSw; (try dsimp only at hSw); go_simp; with_reducible rfl; simp only [Act.put, List.setIfInBounds_toArray, List.set_cons_zero, List.set_cons_succ]) | (refine take_no (i := 38) rfl (by kernel_rfl) (by decide +kernel) (by decide +kernel) (fun _ _ _ h => h) (by rfl) (by assumption) ?_; simp only [Act.put, List.setIfInBounds_toArray, List.set_cons_zero, List.set_cons_succ]))
  try (first | (refine take_yes (i := 40) (v := ?_) rfl (by kernel_rfl) (by decide +kernel) (by decide +kernel) (fun _ _ _ h => h) (by rfl) ?_ (by assumption) ?_; rotate_left; intro w hSw; (try dsimp only at hSw); go_simp; with_reducible rfl; simp only [Act.put, List.setIfInBounds_toArray, List.set_cons_zero, List.set_cons_succ]) | (refine take_no (i := 40) rfl (by kernel_rfl) (by decide +kernel) (by decide +kernel) (fun _ _ _ h => h) (by rfl) (by assumption) ?_; simp only [Act.put, List.setIfInBounds_toArray, List.set_cons_zero, List.set_cons_succ]))
  try (first | (refine take_yes (i := 41) (v := ?_) rfl (by kernel_rfl) (by decide +kernel) (by decide +kernel) (fun _ _ _ h => h) (by rfl) ?_ (by assumption) ?_; rotate_left; intro w hSw; (try dsimp only at hSw); go_simp; with_reducible rfl; simp only [Act.put, List.setIfInBounds_toArray, List.set_cons_zero, List.set_cons_succ]) | (refine take_no (i := 41) rfl (by kernel_rfl) (by decide +kernel) (by decide +kernel) (fun _ _ _ h => h) (by rfl) (by assumption) ?_; simp only [Act.put, List.setIfInBounds_toArray, List.set_cons_zero, List.set_cons_succ]))
  refine take_this (i := 39) (by decide +kernel) rfl (by rfl) (fun K hK => ?_)
  go_simp
  go_at_call 25; (with_reducible refine (same_ex a b a b _ _ _ _ true _ (by omega) (by omega) (by omega) (by omega) (Lst.of_row q1) (Lst.of_row q2) (V_11.out.below rB12) (U_11.out.below rB12) (both_self a b)).mono ?_); rintro e w12 ⟨rfl, hb⟩
  have rB12 : Below w11.heap.size w11 w12 := rB12.trans (hb.mono rB12.size)
  clear hb
  try go_simp
  refine hK.out _ _ (HS12.out _ rB12) (fun hHeld => ?_)
  clear hK
  try simp only [Act.put, List.setIfInBounds_toArray, List.set_cons_zero, List.set_cons_succ]
  try (first | (refine take_yes (i := 40) (v := ?_) rfl (by kernel_rfl) (by decide +kernel) (by decide +kernel) (fun _ _ _ h => h) (by rfl) ?_ (by assumption) ?_; rotate_left; intro w hSw; (try dsimp only at hSw); go_simp; with_reducible rfl; simp only [Act.put, List.setIfInBounds_toArray, List.set_cons_zero, List.set_cons_succ]) | (refine take_no (i := 40) rfl (by kernel_rfl) (by decide +kernel) (by decide +kernel) (fun _ _ _ h => h) (by rfl) (by assumption) ?_; simp only [Act.put, List.setIfInBounds_toArray, List.set_cons_zero, List.set_cons_succ]))
  try (first | (refine take_yes (i := 41) (v := ?_) rfl (by kernel_rfl) (by decide +kernel) (by decide +kernel) (fun _ _ _ h => h) (by rfl) ?_ (by assumption) ?_; rotate_left; intro w hSw; (try dsimp only at hSw); go_simp; with_reducible rfl; simp only [Act.put, List.setIfInBounds_toArray, List.set_cons_zero, List.set_cons_succ]) | (refine take_no (i := 41) rfl (by kernel_rfl) (by decide +kernel) (by decide +kernel) (fun _ _ _ h => h) (by rfl) (by assumption) ?_; simp only [Act.put, List.setIfInBounds_toArray, List.set_cons_zero, List.set_cons_succ]))
  refine wpAnyH_done (by decide +kernel) ?_ _
  have b12 := rB12
  clear HS12
  have V_12 := Lib.hid (V_11.out.below b12)
  clear V_11
  have U_12 := Lib.hid (U_11.out.below b12)
  clear U_11
  have X1_12 := Lib.hid (row_below X1_11.out b12)
  clear X1_11
  have X2_12 := Lib.hid (row_below X2_11.out b12)
  clear X2_11
  have KT_12 := Lib.hid (KT_11.out.below b12 KT_11.out.lt)
  clear KT_11
  have KX_12 := Lib.hid (KX_11.out.below b12 KX_11.out.lt)
  clear KX_11
  have B_12 := Lib.hid (B_11.out.trans (b12.mono B_11.out.size))
  clear B_11
  go_wp2
  go_ret
  exact ⟨rfl, B_12.out⟩

theorem back_tf (a b : List ByteArray) (v u : Value) (s : ByteArray) (w : World) (hv : Lst stc w v a) (hu : Lst stc w u b) (hn : NilFine v) (hn' : NilFine u) (hs : s.size ≤ maxLen) (h1 : (fewB a 210 && fewB b 210) = true) (h0 : checkF a b = 0) (r c : ByteArray) (hr : aheadF a b s = (r, true)) (hc : aheadF b a s = (c, false)) :
    Calls Try.prog 5 #[.agg #[v, u], .string s] w fun e w' => e = .returned (.bool true) ∧ Below w.heap.size w w' := by
  obtain ⟨f1, f2⟩ := Bool.and_eq_true_iff.1 h1
  obtain ⟨la, za⟩ := few_of f1
  obtain ⟨lb, zb⟩ := few_of f2
  clear f1 f2
  have hrz := aheadF_size hr zb
  have hcz := aheadF_size hc za
  have h0' := check_turn.1 h0
  have hb := aheadF_back hr
  obtain rfl := aheadF_none hc
  have hd := aheadF_empty a b
  have H1 := Lib.hid h1
  have ZA := Lib.hid za
  have ZB := Lib.hid zb
  have H0 := Lib.hid h0
  have H0' := Lib.hid h0'
  have HR := Lib.hid hr
  have HC := Lib.hid hc
  have HB := Lib.hid hb
  have HD := Lib.hid hd
  have HS := Lib.hid hs
  have HRZ := Lib.hid hrz
  have HCZ := Lib.hid hcz
  have HN := Lib.hid hn
  have HN' := Lib.hid hn'
  clear h1 za zb h0 h0' hr hc hb hd hs hrz hcz hn hn'
  have HV := Lib.hid hv
  have HU := Lib.hid hu
  obtain ⟨va, vc, rfl⟩ := hv.slice
  obtain ⟨ua, uc, rfl⟩ := hu.slice
  clear hv hu
  go_enter Try.func5, Try.ntmps5
  go_wp2_with fail
  have a1 : Below w.heap.size w (w.alloc (.cells #[.slice va a.length vc, .slice ua b.length uc] 24)) := ((Below.refl w.heap.size w).alloc (by first | exact Nat.le_refl _ | (simp only [World.size_alloc]; omega)) (.cells #[.slice va a.length vc, .slice ua b.length uc] 24))
  have T_new0 := (Blk.new w #[.slice va a.length vc, .slice ua b.length uc] 24)
  have KT_00 := Lib.hid T_new0
  clear T_new0
  have V_1 := Lib.hid (HV.out.below a1)
  clear HV
  have U_1 := Lib.hid (HU.out.below a1)
  clear HU
  have B_1 := Lib.hid a1
  clear a1
  generalize (w.alloc (.cells #[.slice va a.length vc, .slice ua b.length uc] 24)) = w1 at V_1 U_1 KT_00 B_1 ⊢
  refine (works_any _).mono ?_
  rintro e w2 ⟨rfl, b2⟩
  have V_2 := Lib.hid (V_1.out.below b2)
  clear V_1
  have U_2 := Lib.hid (U_1.out.below b2)
  clear U_1
  have KT_2 := Lib.hid (KT_00.out.below b2 KT_00.out.lt)
  clear KT_00
  have B_2 := Lib.hid (B_1.out.trans (b2.mono B_1.out.size))
  clear B_1
  clear b2
  have lT_2 : w.heap.size < w2.heap.size := KT_2.out.lt
  have cT_0_2 : w2.cell? ⟨w.heap.size, 0, none⟩ = some (.slice va a.length vc) := KT_2.out.cell 0
  have cT_1_2 : w2.cell? ⟨w.heap.size, 1, none⟩ = some (.slice ua b.length uc) := KT_2.out.cell 1
  go_wp2_with fail
  clear lT_2 cT_0_2 cT_1_2
  refine (few_ex a b _ _ true _ V_2.out U_2.out H1.out).mono ?_
  rintro e w3 ⟨rfl, b3⟩
  have V_3 := Lib.hid (V_2.out.below b3)
  clear V_2
  have U_3 := Lib.hid (U_2.out.below b3)
  clear U_2
  have KT_3 := Lib.hid (KT_2.out.below b3 KT_2.out.lt)
  clear KT_2
  have B_3 := Lib.hid (B_2.out.trans (b3.mono B_2.out.size))
  clear B_2
  clear b3
  have lT_3 : w.heap.size < w3.heap.size := KT_3.out.lt
  have cT_0_3 : w3.cell? ⟨w.heap.size, 0, none⟩ = some (.slice va a.length vc) := KT_3.out.cell 0
  have cT_1_3 : w3.cell? ⟨w.heap.size, 1, none⟩ = some (.slice ua b.length uc) := KT_3.out.cell 1
  go_wp2_with fail
  clear lT_3 cT_0_3 cT_1_3
  refine (check_ex a b _ _ 0 _ V_3.out U_3.out ZA.out ZB.out H0.out).mono ?_
  rintro e w4 ⟨rfl, b4⟩
  have V_4 := Lib.hid (V_3.out.below b4)
  clear V_3
  have U_4 := Lib.hid (U_3.out.below b4)
  clear U_3
  have KT_4 := Lib.hid (KT_3.out.below b4 KT_3.out.lt)
  clear KT_3
  have B_4 := Lib.hid (B_3.out.trans (b4.mono B_3.out.size))
  clear B_3
  clear b4
  have lT_4 : w.heap.size < w4.heap.size := KT_4.out.lt
  have cT_0_4 : w4.cell? ⟨w.heap.size, 0, none⟩ = some (.slice va a.length vc) := KT_4.out.cell 0
  have cT_1_4 : w4.cell? ⟨w.heap.size, 1, none⟩ = some (.slice ua b.length uc) := KT_4.out.cell 1
  go_wp2_with fail
  clear lT_4 cT_0_4 cT_1_4
  refine (ahead_ex2 a b _ _ s r true _ V_4.out U_4.out ZA.out ZB.out HS.out HR.out).mono ?_
  rintro e w5 ⟨rfl, b5⟩
  have V_5 := Lib.hid (V_4.out.below b5)
  clear V_4
  have U_5 := Lib.hid (U_4.out.below b5)
  clear U_4
  have KT_5 := Lib.hid (KT_4.out.below b5 KT_4.out.lt)
  clear KT_4
  have B_5 := Lib.hid (B_4.out.trans (b5.mono B_4.out.size))
  clear B_4
  clear b5
  have lT_5 : w.heap.size < w5.heap.size := KT_5.out.lt
  have cT_0_5 : w5.cell? ⟨w.heap.size, 0, none⟩ = some (.slice va a.length vc) := KT_5.out.cell 0
  have cT_1_5 : w5.cell? ⟨w.heap.size, 1, none⟩ = some (.slice ua b.length uc) := KT_5.out.cell 1
  go_wp2_with fail
  clear lT_5 cT_0_5 cT_1_5
  refine (back_ex2 a b _ _ r s true _ V_5.out U_5.out ZA.out ZB.out HRZ.out HB.out).mono ?_
  rintro e w6 ⟨rfl, b6⟩
  have V_6 := Lib.hid (V_5.out.below b6)
  clear V_5
  have U_6 := Lib.hid (U_5.out.below b6)
  clear U_5
  have KT_6 := Lib.hid (KT_5.out.below b6 KT_5.out.lt)
  clear KT_5
  have B_6 := Lib.hid (B_5.out.trans (b6.mono B_5.out.size))
  clear B_5
  clear b6
  have lT_6 : w.heap.size < w6.heap.size := KT_6.out.lt
  have cT_0_6 : w6.cell? ⟨w.heap.size, 0, none⟩ = some (.slice va a.length vc) := KT_6.out.cell 0
  have cT_1_6 : w6.cell? ⟨w.heap.size, 1, none⟩ = some (.slice ua b.length uc) := KT_6.out.cell 1
  go_wp2_with fail
  clear lT_6 cT_0_6 cT_1_6
  refine (back_ex2 a b _ _ s ⟨#[]⟩ false _ V_6.out U_6.out ZA.out ZB.out HS.out HC.out).mono ?_
  rintro e w7 ⟨rfl, b7⟩
  have V_7 := Lib.hid (V_6.out.below b7)
  clear V_6
  have U_7 := Lib.hid (U_6.out.below b7)
  clear U_6
  have KT_7 := Lib.hid (KT_6.out.below b7 KT_6.out.lt)
  clear KT_6
  have B_7 := Lib.hid (B_6.out.trans (b7.mono B_6.out.size))
  clear B_6
  clear b7
  have lT_7 : w.heap.size < w7.heap.size := KT_7.out.lt
  have cT_0_7 : w7.cell? ⟨w.heap.size, 0, none⟩ = some (.slice va a.length vc) := KT_7.out.cell 0
  have cT_1_7 : w7.cell? ⟨w.heap.size, 1, none⟩ = some (.slice ua b.length uc) := KT_7.out.cell 1
  go_wp2_with fail
  clear lT_7 cT_0_7 cT_1_7
  refine (ahead_ex2 a b _ _ ⟨#[]⟩ ⟨#[]⟩ false _ V_7.out U_7.out ZA.out ZB.out HCZ.out HD.out).mono ?_
  rintro e w8 ⟨rfl, b8⟩
  have V_8 := Lib.hid (V_7.out.below b8)
  clear V_7
  have U_8 := Lib.hid (U_7.out.below b8)
  clear U_7
  have KT_8 := Lib.hid (KT_7.out.below b8 KT_7.out.lt)
  clear KT_7
  have B_8 := Lib.hid (B_7.out.trans (b8.mono B_7.out.size))
  clear B_7
  clear b8
  have lT_8 : w.heap.size < w8.heap.size := KT_8.out.lt
  have cT_0_8 : w8.cell? ⟨w.heap.size, 0, none⟩ = some (.slice va a.length vc) := KT_8.out.cell 0
  have cT_1_8 : w8.cell? ⟨w.heap.size, 1, none⟩ = some (.slice ua b.length uc) := KT_8.out.cell 1
  go_wp2_with fail
  clear lT_8 cT_0_8 cT_1_8
  refine (inv_ex a b _ _ 0 _ V_8.out U_8.out ZA.out ZB.out HN.out HN'.out H0'.out).mono ?_
  rintro e w9 ⟨V1, rfl, ht, b9⟩
  have V_9 := Lib.hid (V_8.out.below b9)
  clear V_8
  have U_9 := Lib.hid (U_8.out.below b9)
  clear U_8
  have KT_9 := Lib.hid (KT_8.out.below b9 KT_8.out.lt)
  clear KT_8
  have B_9 := Lib.hid (B_8.out.trans (b9.mono B_8.out.size))
  clear B_8
  clear b9
  rw [okL_yes rfl, okL_yes rfl] at ht
  obtain ⟨x1, x2, rfl, r1, r2⟩ := ht
  obtain ⟨xa, xc, rfl⟩ := row_slice r1
  obtain ⟨ya, yc, rfl⟩ := row_slice r2
  have X1 := Lib.hid r1
  clear r1
  have X2 := Lib.hid r2
  clear r2
  go_wp2_with fail
  have a2 : Below w9.heap.size w9 (w9.alloc (.cells #[.slice xa b.length xc, .slice ya a.length yc] 24)) := ((Below.refl w9.heap.size w9).alloc (by first | exact Nat.le_refl _ | (simp only [World.size_alloc]; omega)) (.cells #[.slice xa b.length xc, .slice ya a.length yc] 24))
  have X_new9 := (Blk.new w9 #[.slice xa b.length xc, .slice ya a.length yc] 24)
  have KX_09 := Lib.hid X_new9
  clear X_new9
  have V_10 := Lib.hid (V_9.out.below a2)
  clear V_9
  have U_10 := Lib.hid (U_9.out.below a2)
  clear U_9
  have X1_10 := Lib.hid (row_below X1.out a2)
  clear X1
  have X2_10 := Lib.hid (row_below X2.out a2)
  clear X2
  have KT_10 := Lib.hid (KT_9.out.below a2 KT_9.out.lt)
  clear KT_9
  have B_10 := Lib.hid (B_9.out.trans (a2.mono B_9.out.size))
  clear B_9
  clear a2
  generalize (w9.alloc (.cells #[.slice xa b.length xc, .slice ya a.length yc] 24)) = w10 at V_10 U_10 X1_10 X2_10 KT_10 KX_09 B_10 ⊢
  refine (ahead_ex2 b a _ _ s ⟨#[]⟩ false _ (Lst.of_row X1_10.out) (Lst.of_row X2_10.out) ZB.out ZA.out HS.out HC.out).mono ?_
  rintro e w11 ⟨rfl, b11⟩
  have V_11 := Lib.hid (V_10.out.below b11)
  clear V_10
  have U_11 := Lib.hid (U_10.out.below b11)
  clear U_10
  have X1_11 := Lib.hid (row_below X1_10.out b11)
  clear X1_10
  have X2_11 := Lib.hid (row_below X2_10.out b11)
  clear X2_10
  have KT_11 := Lib.hid (KT_10.out.below b11 KT_10.out.lt)
  clear KT_10
  have KX_11 := Lib.hid (KX_09.out.below b11 KX_09.out.lt)
  clear KX_09
  have B_11 := Lib.hid (B_10.out.trans (b11.mono B_10.out.size))
  clear B_10
  clear b11
  go_wp2_with fail
  have hss : (s.toList == s.toList) = true := beq_self_eq_true _
  have hcc : ((⟨#[]⟩ : ByteArray).toList == (⟨#[]⟩ : ByteArray).toList) = true := beq_self_eq_true _
  have HS12 : Hid (∀ X : World, Below w11.heap.size w11 X → X.cell? ⟨w.heap.size, 0, none⟩ = some (.slice va a.length vc) ∧ X.cell? ⟨w.heap.size, 1, none⟩ = some (.slice ua b.length uc) ∧ X.cell? ⟨w9.heap.size, 0, none⟩ = some (.slice xa b.length xc) ∧ X.cell? ⟨w9.heap.size, 1, none⟩ = some (.slice ya a.length yc) ∧ Below w11.heap.size w11 X) := Lib.hid fun X h => ⟨(h.cell (p := ⟨w.heap.size, 0, none⟩) KT_11.out.lt).trans (KT_11.out.cell 0), (h.cell (p := ⟨w.heap.size, 1, none⟩) KT_11.out.lt).trans (KT_11.out.cell 1), (h.cell (p := ⟨w9.heap.size, 0, none⟩) KX_11.out.lt).trans (KX_11.out.cell 0), (h.cell (p := ⟨w9.heap.size, 1, none⟩) KX_11.out.lt).trans (KX_11.out.cell 1), h⟩
  refine wp_region_held_drew (S := fun X => X.cell? ⟨w.heap.size, 0, none⟩ = some (.slice va a.length vc) ∧ X.cell? ⟨w.heap.size, 1, none⟩ = some (.slice ua b.length uc) ∧ X.cell? ⟨w9.heap.size, 0, none⟩ = some (.slice xa b.length xc) ∧ X.cell? ⟨w9.heap.size, 1, none⟩ = some (.slice ya a.length yc) ∧ Below w11.heap.size w11 X) (by kernel_rfl) (HS12.out _ (Below.refl _ _).drew) (fun hHeld => ?_)
  try (first | (refine take_yes (i := 0) (v := ?_) rfl (by kernel_rfl) (by decide +kernel) (by decide +kernel) (fun _ _ _ h => h) (by rfl) ?_ (by assumption) ?_; rotate_left; intro w hSw; (try dsimp only at hSw); go_simp; with_reducible rfl; simp only [Act.put, List.setIfInBounds_toArray, List.set_cons_zero, List.set_cons_succ]) | (refine take_no (i := 0) rfl (by kernel_rfl) (by decide +kernel) (by decide +kernel) (fun _ _ _ h => h) (by rfl) (by assumption) ?_; simp only [Act.put, List.setIfInBounds_toArray, List.set_cons_zero, List.set_cons_succ]))
  try (first | (refine take_yes (i := 1) (v := ?_) rfl (by kernel_rfl) (by decide +kernel) (by decide +kernel) (fun _ _ _ h => h) (by rfl) ?_ (by assumption) ?_; rotate_left; intro w hSw; (try dsimp only at hSw); go_simp; with_reducible rfl; simp only [Act.put, List.setIfInBounds_toArray, List.set_cons_zero, List.set_cons_succ]) | (refine take_no (i := 1) rfl (by kernel_rfl) (by decide +kernel) (by decide +kernel) (fun _ _ _ h => h) (by rfl) (by assumption) ?_; simp only [Act.put, List.setIfInBounds_toArray, List.set_cons_zero, List.set_cons_succ]))
  try (first | (refine take_yes (i := 2) (v := ?_) rfl (by kernel_rfl) (by decide +kernel) (by decide +kernel) (fun _ _ _ h => h) (by rfl) ?_ (by assumption) ?_; rotate_left; intro w hSw; (try dsimp only at hSw); go_simp; with_reducible rfl; simp only [Act.put, List.setIfInBounds_toArray, List.set_cons_zero, List.set_cons_succ]) | (refine take_no (i := 2) rfl (by kernel_rfl) (by decide +kernel) (by decide +kernel) (fun _ _ _ h => h) (by rfl) (by assumption) ?_; simp only [Act.put, List.setIfInBounds_toArray, List.set_cons_zero, List.set_cons_succ]))
  try (first | (refine take_yes (i := 3) (v := ?_) rfl (by kernel_rfl) (by decide +kernel) (by decide +kernel) (fun _ _ _ h => h) (by rfl) ?_ (by assumption) ?_; rotate_left; intro w hSw; (try dsimp only at hSw); go_simp; with_reducible rfl; simp only [Act.put, List.setIfInBounds_toArray, List.set_cons_zero, List.set_cons_succ]) | (refine take_no (i := 3) rfl (by kernel_rfl) (by decide +kernel) (by decide +kernel) (fun _ _ _ h => h) (by rfl) (by assumption) ?_; simp only [Act.put, List.setIfInBounds_toArray, List.set_cons_zero, List.set_cons_succ]))
  try (first | (refine take_yes (i := 4) (v := ?_) rfl (by kernel_rfl) (by decide +kernel) (by decide +kernel) (fun _ _ _ h => h) (by rfl) ?_ (by assumption) ?_; rotate_left; intro w hSw; (try dsimp only at hSw); go_simp; with_reducible rfl; simp only [Act.put, List.setIfInBounds_toArray, List.set_cons_zero, List.set_cons_succ]) | (refine take_no (i := 4) rfl (by kernel_rfl) (by decide +kernel) (by decide +kernel) (fun _ _ _ h => h) (by rfl) (by assumption) ?_; simp only [Act.put, List.setIfInBounds_toArray, List.set_cons_zero, List.set_cons_succ]))
  try (first | (refine take_yes (i := 5) (v := ?_) rfl (by kernel_rfl) (by decide +kernel) (by decide +kernel) (fun _ _ _ h => h) (by rfl) ?_ (by assumption) ?_; rotate_left; intro w hSw; (try dsimp only at hSw); go_simp; with_reducible rfl; simp only [Act.put, List.setIfInBounds_toArray, List.set_cons_zero, List.set_cons_succ]) | (refine take_no (i := 5) rfl (by kernel_rfl) (by decide +kernel) (by decide +kernel) (fun _ _ _ h => h) (by rfl) (by assumption) ?_; simp only [Act.put, List.setIfInBounds_toArray, List.set_cons_zero, List.set_cons_succ]))
  try (first | (refine take_yes (i := 6) (v := ?_) rfl (by kernel_rfl) (by decide +kernel) (by decide +kernel) (fun _ _ _ h => h) (by rfl) ?_ (by assumption) ?_; rotate_left; intro w hSw; (try dsimp only at hSw); go_simp; with_reducible rfl; simp only [Act.put, List.setIfInBounds_toArray, List.set_cons_zero, List.set_cons_succ]) | (refine take_no (i := 6) rfl (by kernel_rfl) (by decide +kernel) (by decide +kernel) (fun _ _ _ h => h) (by rfl) (by assumption) ?_; simp only [Act.put, List.setIfInBounds_toArray, List.set_cons_zero, List.set_cons_succ]))
  try (first | (refine take_yes (i := 7) (v := ?_) rfl (by kernel_rfl) (by decide +kernel) (by decide +kernel) (fun _ _ _ h => h) (by rfl) ?_ (by assumption) ?_; rotate_left; intro w hSw; (try dsimp only at hSw); go_simp; with_reducible rfl; simp only [Act.put, List.setIfInBounds_toArray, List.set_cons_zero, List.set_cons_succ]) | (refine take_no (i := 7) rfl (by kernel_rfl) (by decide +kernel) (by decide +kernel) (fun _ _ _ h => h) (by rfl) (by assumption) ?_; simp only [Act.put, List.setIfInBounds_toArray, List.set_cons_zero, List.set_cons_succ]))
  try (first | (refine take_yes (i := 8) (v := ?_) rfl (by kernel_rfl) (by decide +kernel) (by decide +kernel) (fun _ _ _ h => h) (by rfl) ?_ (by assumption) ?_; rotate_left; intro w hSw; (try dsimp only at hSw); go_simp; with_reducible rfl; simp only [Act.put, List.setIfInBounds_toArray, List.set_cons_zero, List.set_cons_succ]) | (refine take_no (i := 8) rfl (by kernel_rfl) (by decide +kernel) (by decide +kernel) (fun _ _ _ h => h) (by rfl) (by assumption) ?_; simp only [Act.put, List.setIfInBounds_toArray, List.set_cons_zero, List.set_cons_succ]))
  try (first | (refine take_yes (i := 9) (v := ?_) rfl (by kernel_rfl) (by decide +kernel) (by decide +kernel) (fun _ _ _ h => h) (by rfl) ?_ (by assumption) ?_; rotate_left; intro w hSw; (try dsimp only at hSw); go_simp; with_reducible rfl; simp only [Act.put, List.setIfInBounds_toArray, List.set_cons_zero, List.set_cons_succ]) | (refine take_no (i := 9) rfl (by kernel_rfl) (by decide +kernel) (by decide +kernel) (fun _ _ _ h => h) (by rfl) (by assumption) ?_; simp only [Act.put, List.setIfInBounds_toArray, List.set_cons_zero, List.set_cons_succ]))
  try (first | (refine take_yes (i := 10) (v := ?_) rfl (by kernel_rfl) (by decide +kernel) (by decide +kernel) (fun _ _ _ h => h) (by rfl) ?_ (by assumption) ?_; rotate_left; intro w hSw; (try dsimp only at hSw); go_simp; with_reducible rfl; simp only [Act.put, List.setIfInBounds_toArray, List.set_cons_zero, List.set_cons_succ]) | (refine take_no (i := 10) rfl (by kernel_rfl) (by decide +kernel) (by decide +kernel) (fun _ _ _ h => h) (by rfl) (by assumption) ?_; simp only [Act.put, List.setIfInBounds_toArray, List.set_cons_zero, List.set_cons_succ]))
  try (first | (refine take_yes (i := 11) (v := ?_) rfl (by kernel_rfl) (by decide +kernel) (by decide +kernel) (fun _ _ _ h => h) (by rfl) ?_ (by assumption) ?_; rotate_left; intro w hSw; (try dsimp only at hSw); go_simp; with_reducible rfl; simp only [Act.put, List.setIfInBounds_toArray, List.set_cons_zero, List.set_cons_succ]) | (refine take_no (i := 11) rfl (by kernel_rfl) (by decide +kernel) (by decide +kernel) (fun _ _ _ h => h) (by rfl) (by assumption) ?_; simp only [Act.put, List.setIfInBounds_toArray, List.set_cons_zero, List.set_cons_succ]))
  try (first | (refine take_yes (i := 12) (v := ?_) rfl (by kernel_rfl) (by decide +kernel) (by decide +kernel) (fun _ _ _ h => h) (by rfl) ?_ (by assumption) ?_; rotate_left; intro w hSw; (try dsimp only at hSw); go_simp; with_reducible rfl; simp only [Act.put, List.setIfInBounds_toArray, List.set_cons_zero, List.set_cons_succ]) | (refine take_no (i := 12) rfl (by kernel_rfl) (by decide +kernel) (by decide +kernel) (fun _ _ _ h => h) (by rfl) (by assumption) ?_; simp only [Act.put, List.setIfInBounds_toArray, List.set_cons_zero, List.set_cons_succ]))
  try (first | (refine take_yes (i := 13) (v := ?_) rfl (by kernel_rfl) (by decide +kernel) (by decide +kernel) (fun _ _ _ h => h) (by rfl) ?_ (by assumption) ?_; rotate_left; intro w hSw; (try dsimp only at hSw); go_simp; with_reducible rfl; simp only [Act.put, List.setIfInBounds_toArray, List.set_cons_zero, List.set_cons_succ]) | (refine take_no (i := 13) rfl (by kernel_rfl) (by decide +kernel) (by decide +kernel) (fun _ _ _ h => h) (by rfl) (by assumption) ?_; simp only [Act.put, List.setIfInBounds_toArray, List.set_cons_zero, List.set_cons_succ]))
  try (first | (refine take_yes (i := 14) (v := ?_) rfl (by kernel_rfl) (by decide +kernel) (by decide +kernel) (fun _ _ _ h => h) (by rfl) ?_ (by assumption) ?_; rotate_left; intro w hSw; (try dsimp only at hSw); go_simp; with_reducible rfl; simp only [Act.put, List.setIfInBounds_toArray, List.set_cons_zero, List.set_cons_succ]) | (refine take_no (i := 14) rfl (by kernel_rfl) (by decide +kernel) (by decide +kernel) (fun _ _ _ h => h) (by rfl) (by assumption) ?_; simp only [Act.put, List.setIfInBounds_toArray, List.set_cons_zero, List.set_cons_succ]))
  try (first | (refine take_yes (i := 15) (v := ?_) rfl (by kernel_rfl) (by decide +kernel) (by decide +kernel) (fun _ _ _ h => h) (by rfl) ?_ (by assumption) ?_; rotate_left; intro w hSw; (try dsimp only at hSw); go_simp; with_reducible rfl; simp only [Act.put, List.setIfInBounds_toArray, List.set_cons_zero, List.set_cons_succ]) | (refine take_no (i := 15) rfl (by kernel_rfl) (by decide +kernel) (by decide +kernel) (fun _ _ _ h => h) (by rfl) (by assumption) ?_; simp only [Act.put, List.setIfInBounds_toArray, List.set_cons_zero, List.set_cons_succ]))
  try (first | (refine take_yes (i := 16) (v := ?_) rfl (by kernel_rfl) (by decide +kernel) (by decide +kernel) (fun _ _ _ h => h) (by rfl) ?_ (by assumption) ?_; rotate_left; intro w hSw; (try dsimp only at hSw); go_simp; with_reducible rfl; simp only [Act.put, List.setIfInBounds_toArray, List.set_cons_zero, List.set_cons_succ]) | (refine take_no (i := 16) rfl (by kernel_rfl) (by decide +kernel) (by decide +kernel) (fun _ _ _ h => h) (by rfl) (by assumption) ?_; simp only [Act.put, List.setIfInBounds_toArray, List.set_cons_zero, List.set_cons_succ]))
  try (first | (refine take_yes (i := 17) (v := ?_) rfl (by kernel_rfl) (by decide +kernel) (by decide +kernel) (fun _ _ _ h => h) (by rfl) ?_ (by assumption) ?_; rotate_left; intro w hSw; (try dsimp only at hSw); go_simp; with_reducible rfl; simp only [Act.put, List.setIfInBounds_toArray, List.set_cons_zero, List.set_cons_succ]) | (refine take_no (i := 17) rfl (by kernel_rfl) (by decide +kernel) (by decide +kernel) (fun _ _ _ h => h) (by rfl) (by assumption) ?_; simp only [Act.put, List.setIfInBounds_toArray, List.set_cons_zero, List.set_cons_succ]))
  try (first | (refine take_yes (i := 18) (v := ?_) rfl (by kernel_rfl) (by decide +kernel) (by decide +kernel) (fun _ _ _ h => h) (by rfl) ?_ (by assumption) ?_; rotate_left; intro w hSw; (try dsimp only at hSw); go_simp; with_reducible rfl; simp only [Act.put, List.setIfInBounds_toArray, List.set_cons_zero, List.set_cons_succ]) | (refine take_no (i := 18) rfl (by kernel_rfl) (by decide +kernel) (by decide +kernel) (fun _ _ _ h => h) (by rfl) (by assumption) ?_; simp only [Act.put, List.setIfInBounds_toArray, List.set_cons_zero, List.set_cons_succ]))
  try (first | (refine take_yes (i := 19) (v := ?_) rfl (by kernel_rfl) (by decide +kernel) (by decide +kernel) (fun _ _ _ h => h) (by rfl) ?_ (by assumption) ?_; rotate_left; intro w hSw; (try dsimp only at hSw); go_simp; with_reducible rfl; simp only [Act.put, List.setIfInBounds_toArray, List.set_cons_zero, List.set_cons_succ]) | (refine take_no (i := 19) rfl (by kernel_rfl) (by decide +kernel) (by decide +kernel) (fun _ _ _ h => h) (by rfl) (by assumption) ?_; simp only [Act.put, List.setIfInBounds_toArray, List.set_cons_zero, List.set_cons_succ]))
  try (first | (refine take_yes (i := 20) (v := ?_) rfl (by kernel_rfl) (by decide +kernel) (by decide +kernel) (fun _ _ _ h => h) (by rfl) ?_ (by assumption) ?_; rotate_left; intro w hSw; (try dsimp only at hSw); go_simp; with_reducible rfl; simp only [Act.put, List.setIfInBounds_toArray, List.set_cons_zero, List.set_cons_succ]) | (refine take_no (i := 20) rfl (by kernel_rfl) (by decide +kernel) (by decide +kernel) (fun _ _ _ h => h) (by rfl) (by assumption) ?_; simp only [Act.put, List.setIfInBounds_toArray, List.set_cons_zero, List.set_cons_succ]))
  try (first | (refine take_yes (i := 21) (v := ?_) rfl (by kernel_rfl) (by decide +kernel) (by decide +kernel) (fun _ _ _ h => h) (by rfl) ?_ (by assumption) ?_; rotate_left; intro w hSw; (try dsimp only at hSw); go_simp; with_reducible rfl; simp only [Act.put, List.setIfInBounds_toArray, List.set_cons_zero, List.set_cons_succ]) | (refine take_no (i := 21) rfl (by kernel_rfl) (by decide +kernel) (by decide +kernel) (fun _ _ _ h => h) (by rfl) (by assumption) ?_; simp only [Act.put, List.setIfInBounds_toArray, List.set_cons_zero, List.set_cons_succ]))
  try (first | (refine take_yes (i := 22) (v := ?_) rfl (by kernel_rfl) (by decide +kernel) (by decide +kernel) (fun _ _ _ h => h) (by rfl) ?_ (by assumption) ?_; rotate_left; intro w hSw; (try dsimp only at hSw); go_simp; with_reducible rfl; simp only [Act.put, List.setIfInBounds_toArray, List.set_cons_zero, List.set_cons_succ]) | (refine take_no (i := 22) rfl (by kernel_rfl) (by decide +kernel) (by decide +kernel) (fun _ _ _ h => h) (by rfl) (by assumption) ?_; simp only [Act.put, List.setIfInBounds_toArray, List.set_cons_zero, List.set_cons_succ]))
  try (first | (refine take_yes (i := 23) (v := ?_) rfl (by kernel_rfl) (by decide +kernel) (by decide +kernel) (fun _ _ _ h => h) (by rfl) ?_ (by assumption) ?_; rotate_left; intro w hSw; (try dsimp only at hSw); go_simp; with_reducible rfl; simp only [Act.put, List.setIfInBounds_toArray, List.set_cons_zero, List.set_cons_succ]) | (refine take_no (i := 23) rfl (by kernel_rfl) (by decide +kernel) (by decide +kernel) (fun _ _ _ h => h) (by rfl) (by assumption) ?_; simp only [Act.put, List.setIfInBounds_toArray, List.set_cons_zero, List.set_cons_succ]))
  try (first | (refine take_yes (i := 24) (v := ?_) rfl (by kernel_rfl) (by decide +kernel) (by decide +kernel) (fun _ _ _ h => h) (by rfl) ?_ (by assumption) ?_; rotate_left; intro w hSw; (try dsimp only at hSw); go_simp; with_reducible rfl; simp only [Act.put, List.setIfInBounds_toArray, List.set_cons_zero, List.set_cons_succ]) | (refine take_no (i := 24) rfl (by kernel_rfl) (by decide +kernel) (by decide +kernel) (fun _ _ _ h => h) (by rfl) (by assumption) ?_; simp only [Act.put, List.setIfInBounds_toArray, List.set_cons_zero, List.set_cons_succ]))
  try (first | (refine take_yes (i := 25) (v := ?_) rfl (by kernel_rfl) (by decide +kernel) (by decide +kernel) (fun _ _ _ h => h) (by rfl) ?_ (by assumption) ?_; rotate_left; intro w hSw; (try dsimp only at hSw); go_simp; with_reducible rfl; simp only [Act.put, List.setIfInBounds_toArray, List.set_cons_zero, List.set_cons_succ]) | (refine take_no (i := 25) rfl (by kernel_rfl) (by decide +kernel) (by decide +kernel) (fun _ _ _ h => h) (by rfl) (by assumption) ?_; simp only [Act.put, List.setIfInBounds_toArray, List.set_cons_zero, List.set_cons_succ]))
  try (first | (refine take_yes (i := 26) (v := ?_) rfl (by kernel_rfl) (by decide +kernel) (by decide +kernel) (fun _ _ _ h => h) (by rfl) ?_ (by assumption) ?_; rotate_left; intro w hSw; (try dsimp only at hSw); go_simp; with_reducible rfl; simp only [Act.put, List.setIfInBounds_toArray, List.set_cons_zero, List.set_cons_succ]) | (refine take_no (i := 26) rfl (by kernel_rfl) (by decide +kernel) (by decide +kernel) (fun _ _ _ h => h) (by rfl) (by assumption) ?_; simp only [Act.put, List.setIfInBounds_toArray, List.set_cons_zero, List.set_cons_succ]))
  try (first | (refine take_yes (i := 27) (v := ?_) rfl (by kernel_rfl) (by decide +kernel) (by decide +kernel) (fun _ _ _ h => h) (by rfl) ?_ (by assumption) ?_; rotate_left; intro w hSw; (try dsimp only at hSw); go_simp; with_reducible rfl; simp only [Act.put, List.setIfInBounds_toArray, List.set_cons_zero, List.set_cons_succ]) | (refine take_no (i := 27) rfl (by kernel_rfl) (by decide +kernel) (by decide +kernel) (fun _ _ _ h => h) (by rfl) (by assumption) ?_; simp only [Act.put, List.setIfInBounds_toArray, List.set_cons_zero, List.set_cons_succ]))
  try (first | (refine take_yes (i := 28) (v := ?_) rfl (by kernel_rfl) (by decide +kernel) (by decide +kernel) (fun _ _ _ h => h) (by rfl) ?_ (by assumption) ?_; rotate_left; intro w hSw; (try dsimp only at hSw); go_simp; with_reducible rfl; simp only [Act.put, List.setIfInBounds_toArray, List.set_cons_zero, List.set_cons_succ]) | (refine take_no (i := 28) rfl (by kernel_rfl) (by decide +kernel) (by decide +kernel) (fun _ _ _ h => h) (by rfl) (by assumption) ?_; simp only [Act.put, List.setIfInBounds_toArray, List.set_cons_zero, List.set_cons_succ]))
  try (first | (refine take_yes (i := 29) (v := ?_) rfl (by kernel_rfl) (by decide +kernel) (by decide +kernel) (fun _ _ _ h => h) (by rfl) ?_ (by assumption) ?_; rotate_left; intro w hSw; (try dsimp only at hSw); go_simp; with_reducible rfl; simp only [Act.put, List.setIfInBounds_toArray, List.set_cons_zero, List.set_cons_succ]) | (refine take_no (i := 29) rfl (by kernel_rfl) (by decide +kernel) (by decide +kernel) (fun _ _ _ h => h) (by rfl) (by assumption) ?_; simp only [Act.put, List.setIfInBounds_toArray, List.set_cons_zero, List.set_cons_succ]))
  try (first | (refine take_yes (i := 30) (v := ?_) rfl (by kernel_rfl) (by decide +kernel) (by decide +kernel) (fun _ _ _ h => h) (by rfl) ?_ (by assumption) ?_; rotate_left; intro w hSw; (try dsimp only at hSw); go_simp; with_reducible rfl; simp only [Act.put, List.setIfInBounds_toArray, List.set_cons_zero, List.set_cons_succ]) | (refine take_no (i := 30) rfl (by kernel_rfl) (by decide +kernel) (by decide +kernel) (fun _ _ _ h => h) (by rfl) (by assumption) ?_; simp only [Act.put, List.setIfInBounds_toArray, List.set_cons_zero, List.set_cons_succ]))
  try (first | (refine take_yes (i := 31) (v := ?_) rfl (by kernel_rfl) (by decide +kernel) (by decide +kernel) (fun _ _ _ h => h) (by rfl) ?_ (by assumption) ?_; rotate_left; intro w hSw; (try dsimp only at hSw); go_simp; with_reducible rfl; simp only [Act.put, List.setIfInBounds_toArray, List.set_cons_zero, List.set_cons_succ]) | (refine take_no (i := 31) rfl (by kernel_rfl) (by decide +kernel) (by decide +kernel) (fun _ _ _ h => h) (by rfl) (by assumption) ?_; simp only [Act.put, List.setIfInBounds_toArray, List.set_cons_zero, List.set_cons_succ]))
  try (first | (refine take_yes (i := 32) (v := ?_) rfl (by kernel_rfl) (by decide +kernel) (by decide +kernel) (fun _ _ _ h => h) (by rfl) ?_ (by assumption) ?_; rotate_left; intro w hSw; (try dsimp only at hSw); go_simp; with_reducible rfl; simp only [Act.put, List.setIfInBounds_toArray, List.set_cons_zero, List.set_cons_succ]) | (refine take_no (i := 32) rfl (by kernel_rfl) (by decide +kernel) (by decide +kernel) (fun _ _ _ h => h) (by rfl) (by assumption) ?_; simp only [Act.put, List.setIfInBounds_toArray, List.set_cons_zero, List.set_cons_succ]))
  try (first | (refine take_yes (i := 33) (v := ?_) rfl (by kernel_rfl) (by decide +kernel) (by decide +kernel) (fun _ _ _ h => h) (by rfl) ?_ (by assumption) ?_; rotate_left; intro w hSw; (try dsimp only at hSw); go_simp; with_reducible rfl; simp only [Act.put, List.setIfInBounds_toArray, List.set_cons_zero, List.set_cons_succ]) | (refine take_no (i := 33) rfl (by kernel_rfl) (by decide +kernel) (by decide +kernel) (fun _ _ _ h => h) (by rfl) (by assumption) ?_; simp only [Act.put, List.setIfInBounds_toArray, List.set_cons_zero, List.set_cons_succ]))
  try (first | (refine take_yes (i := 34) (v := ?_) rfl (by kernel_rfl) (by decide +kernel) (by decide +kernel) (fun _ _ _ h => h) (by rfl) ?_ (by assumption) ?_; rotate_left; intro w hSw; (try dsimp only at hSw); go_simp; with_reducible rfl; simp only [Act.put, List.setIfInBounds_toArray, List.set_cons_zero, List.set_cons_succ]) | (refine take_no (i := 34) rfl (by kernel_rfl) (by decide +kernel) (by decide +kernel) (fun _ _ _ h => h) (by rfl) (by assumption) ?_; simp only [Act.put, List.setIfInBounds_toArray, List.set_cons_zero, List.set_cons_succ]))
  try (first | (refine take_yes (i := 35) (v := ?_) rfl (by kernel_rfl) (by decide +kernel) (by decide +kernel) (fun _ _ _ h => h) (by rfl) ?_ (by assumption) ?_; rotate_left; intro w hSw; (try dsimp only at hSw); go_simp; with_reducible rfl; simp only [Act.put, List.setIfInBounds_toArray, List.set_cons_zero, List.set_cons_succ]) | (refine take_no (i := 35) rfl (by kernel_rfl) (by decide +kernel) (by decide +kernel) (fun _ _ _ h => h) (by rfl) (by assumption) ?_; simp only [Act.put, List.setIfInBounds_toArray, List.set_cons_zero, List.set_cons_succ]))
  try (first | (refine take_yes (i := 36) (v := ?_) rfl (by kernel_rfl) (by decide +kernel) (by decide +kernel) (fun _ _ _ h => h) (by rfl) ?_ (by assumption) ?_; rotate_left; intro w hSw; (try dsimp only at hSw); go_simp; with_reducible rfl; simp only [Act.put, List.setIfInBounds_toArray, List.set_cons_zero, List.set_cons_succ]) | (refine take_no (i := 36) rfl (by kernel_rfl) (by decide +kernel) (by decide +kernel) (fun _ _ _ h => h) (by rfl) (by assumption) ?_; simp only [Act.put, List.setIfInBounds_toArray, List.set_cons_zero, List.set_cons_succ]))
  try (first | (refine take_yes (i := 38) (v := ?_) rfl (by kernel_rfl) (by decide +kernel) (by decide +kernel) (fun _ _ _ h => h) (by rfl) ?_ (by assumption) ?_; rotate_left; intro w hSw; (try dsimp only at hSw); go_simp; with_reducible rfl; simp only [Act.put, List.setIfInBounds_toArray, List.set_cons_zero, List.set_cons_succ]) | (refine take_no (i := 38) rfl (by kernel_rfl) (by decide +kernel) (by decide +kernel) (fun _ _ _ h => h) (by rfl) (by assumption) ?_; simp only [Act.put, List.setIfInBounds_toArray, List.set_cons_zero, List.set_cons_succ]))
  try (first | (refine take_yes (i := 40) (v := ?_) rfl (by kernel_rfl) (by decide +kernel) (by decide +kernel) (fun _ _ _ h => h) (by rfl) ?_ (by assumption) ?_; rotate_left; intro w hSw; (try dsimp only at hSw); go_simp; with_reducible rfl; simp only [Act.put, List.setIfInBounds_toArray, List.set_cons_zero, List.set_cons_succ]) | (refine take_no (i := 40) rfl (by kernel_rfl) (by decide +kernel) (by decide +kernel) (fun _ _ _ h => h) (by rfl) (by assumption) ?_; simp only [Act.put, List.setIfInBounds_toArray, List.set_cons_zero, List.set_cons_succ]))
  try (first | (refine take_yes (i := 41) (v := ?_) rfl (by kernel_rfl) (by decide +kernel) (by decide +kernel) (fun _ _ _ h => h) (by rfl) ?_ (by assumption) ?_; rotate_left; intro w hSw; (try dsimp only at hSw); go_simp; with_reducible rfl; simp only [Act.put, List.setIfInBounds_toArray, List.set_cons_zero, List.set_cons_succ]) | (refine take_no (i := 41) rfl (by kernel_rfl) (by decide +kernel) (by decide +kernel) (fun _ _ _ h => h) (by rfl) (by assumption) ?_; simp only [Act.put, List.setIfInBounds_toArray, List.set_cons_zero, List.set_cons_succ]))
  refine take_this (i := 37) (by decide +kernel) rfl (by rfl) (fun K hK => ?_)
  go_simp
  go_at_call 27; (with_reducible refine (inv_ex b a _ _ 0 _ (Lst.of_row (ec := stc) (l := b) (row_below X1_11.out (Below.refl _ _).drew)) (Lst.of_row (ec := stc) (l := a) (row_below X2_11.out (Below.refl _ _).drew)) ZB.out ZA.out (nilFine_row X1_11.out) (nilFine_row X2_11.out) H0.out).mono ?_); rintro e w12 ⟨V2, rfl, ht, hb⟩
  have rB12 : Below w11.heap.size w11 w12 := ((Below.refl w11.heap.size w11).drew).trans (hb.mono (Nat.le_refl _))
  rw [okL_yes rfl, okL_yes rfl] at ht
  obtain ⟨x1, x2, rfl, q1, q2⟩ := ht
  obtain ⟨za, zc, rfl⟩ := row_slice q1
  obtain ⟨wa, wc, rfl⟩ := row_slice q2
  clear hb
  try go_simp
  refine hK.out _ _ (HS12.out _ rB12) (fun hHeld => ?_)
  clear hK
  try simp only [Act.put, List.setIfInBounds_toArray, List.set_cons_zero, List.set_cons_succ]
  try (first | (refine take_yes (i := 38) (v := ?_) rfl (by kernel_rfl) (by decide +kernel) (by decide +kernel) (fun _ _ _ h => h) (by rfl) ?_ (by assumption) ?_; rotate_left; intro w hSw; (try dsimp only at hSw); go_simp; with_reducible rfl; simp only [Act.put, List.setIfInBounds_toArray, List.set_cons_zero, List.set_cons_succ]) | (refine take_no (i := 38) rfl (by kernel_rfl) (by decide +kernel) (by decide +kernel) (fun _ _ _ h => h) (by rfl) (by assumption) ?_; simp only [Act.put, List.setIfInBounds_toArray, List.set_cons_zero, List.set_cons_succ]))
  try (first | (refine take_yes (i := 40) (v := ?_) rfl (by kernel_rfl) (by decide +kernel) (by decide +kernel) (fun _ _ _ h => h) (by rfl) ?_ (by assumption) ?_; rotate_left; intro w hSw; (try dsimp only at hSw); go_simp; with_reducible rfl; simp only [Act.put, List.setIfInBounds_toArray, List.set_cons_zero, List.set_cons_succ]) | (refine take_no (i := 40) rfl (by kernel_rfl) (by decide +kernel) (by decide +kernel) (fun _ _ _ h => h) (by rfl) (by assumption) ?_; simp only [Act.put, List.setIfInBounds_toArray, List.set_cons_zero, List.set_cons_succ]))
  try (first | (refine take_yes (i := 41) (v := ?_) rfl (by kernel_rfl) (by decide +kernel) (by decide +kernel) (fun _ _ _ h => h) (by rfl) ?_ (by assumption) ?_; rotate_left; intro w hSw; (try dsimp only at hSw); go_simp; with_reducible rfl; simp only [Act.put, List.setIfInBounds_toArray, List.set_cons_zero, List.set_cons_succ]) | (refine take_no (i := 41) rfl (by kernel_rfl) (by decide +kernel) (by decide +kernel) (fun _ _ _ h => h) (by rfl) (by assumption) ?_; simp only [Act.put, List.setIfInBounds_toArray, List.set_cons_zero, List.set_cons_succ]))
  refine take_this (i := 39) (by decide +kernel) rfl (by rfl) (fun K hK => ?_)
  go_simp
  go_at_call 25; (with_reducible refine (same_ex a b a b _ _ _ _ true _ (by omega) (by omega) (by omega) (by omega) (Lst.of_row q1) (Lst.of_row q2) (V_11.out.below rB12) (U_11.out.below rB12) (both_self a b)).mono ?_); rintro e w12 ⟨rfl, hb⟩
  have rB12 : Below w11.heap.size w11 w12 := rB12.trans (hb.mono rB12.size)
  clear hb
  try go_simp
  refine hK.out _ _ (HS12.out _ rB12) (fun hHeld => ?_)
  clear hK
  try simp only [Act.put, List.setIfInBounds_toArray, List.set_cons_zero, List.set_cons_succ]
  try (first | (refine take_yes (i := 40) (v := ?_) rfl (by kernel_rfl) (by decide +kernel) (by decide +kernel) (fun _ _ _ h => h) (by rfl) ?_ (by assumption) ?_; rotate_left; intro w hSw; (try dsimp only at hSw); go_simp; with_reducible rfl; simp only [Act.put, List.setIfInBounds_toArray, List.set_cons_zero, List.set_cons_succ]) | (refine take_no (i := 40) rfl (by kernel_rfl) (by decide +kernel) (by decide +kernel) (fun _ _ _ h => h) (by rfl) (by assumption) ?_; simp only [Act.put, List.setIfInBounds_toArray, List.set_cons_zero, List.set_cons_succ]))
  try (first | (refine take_yes (i := 41) (v := ?_) rfl (by kernel_rfl) (by decide +kernel) (by decide +kernel) (fun _ _ _ h => h) (by rfl) ?_ (by assumption) ?_; rotate_left; intro w hSw; (try dsimp only at hSw); go_simp; with_reducible rfl; simp only [Act.put, List.setIfInBounds_toArray, List.set_cons_zero, List.set_cons_succ]) | (refine take_no (i := 41) rfl (by kernel_rfl) (by decide +kernel) (by decide +kernel) (fun _ _ _ h => h) (by rfl) (by assumption) ?_; simp only [Act.put, List.setIfInBounds_toArray, List.set_cons_zero, List.set_cons_succ]))
  refine wpAnyH_done (by decide +kernel) ?_ _
  have b12 := rB12
  clear HS12
  have V_12 := Lib.hid (V_11.out.below b12)
  clear V_11
  have U_12 := Lib.hid (U_11.out.below b12)
  clear U_11
  have X1_12 := Lib.hid (row_below X1_11.out b12)
  clear X1_11
  have X2_12 := Lib.hid (row_below X2_11.out b12)
  clear X2_11
  have KT_12 := Lib.hid (KT_11.out.below b12 KT_11.out.lt)
  clear KT_11
  have KX_12 := Lib.hid (KX_11.out.below b12 KX_11.out.lt)
  clear KX_11
  have B_12 := Lib.hid (B_11.out.trans (b12.mono B_11.out.size))
  clear B_11
  go_wp2
  go_ret
  exact ⟨rfl, B_12.out⟩

theorem back_ft (a b : List ByteArray) (v u : Value) (s : ByteArray) (w : World) (hv : Lst stc w v a) (hu : Lst stc w u b) (hn : NilFine v) (hn' : NilFine u) (hs : s.size ≤ maxLen) (h1 : (fewB a 210 && fewB b 210) = true) (h0 : checkF a b = 0) (r c : ByteArray) (hr : aheadF a b s = (r, false)) (hc : aheadF b a s = (c, true)) :
    Calls Try.prog 5 #[.agg #[v, u], .string s] w fun e w' => e = .returned (.bool true) ∧ Below w.heap.size w w' := by
  obtain ⟨f1, f2⟩ := Bool.and_eq_true_iff.1 h1
  obtain ⟨la, za⟩ := few_of f1
  obtain ⟨lb, zb⟩ := few_of f2
  clear f1 f2
  have hrz := aheadF_size hr zb
  have hcz := aheadF_size hc za
  have h0' := check_turn.1 h0
  obtain rfl := aheadF_none hr
  have hb := aheadF_empty b a
  have hd := aheadF_back hc
  have H1 := Lib.hid h1
  have ZA := Lib.hid za
  have ZB := Lib.hid zb
  have H0 := Lib.hid h0
  have H0' := Lib.hid h0'
  have HR := Lib.hid hr
  have HC := Lib.hid hc
  have HB := Lib.hid hb
  have HD := Lib.hid hd
  have HS := Lib.hid hs
  have HRZ := Lib.hid hrz
  have HCZ := Lib.hid hcz
  have HN := Lib.hid hn
  have HN' := Lib.hid hn'
  clear h1 za zb h0 h0' hr hc hb hd hs hrz hcz hn hn'
  have HV := Lib.hid hv
  have HU := Lib.hid hu
  obtain ⟨va, vc, rfl⟩ := hv.slice
  obtain ⟨ua, uc, rfl⟩ := hu.slice
  clear hv hu
  go_enter Try.func5, Try.ntmps5
  go_wp2_with fail
  have a1 : Below w.heap.size w (w.alloc (.cells #[.slice va a.length vc, .slice ua b.length uc] 24)) := ((Below.refl w.heap.size w).alloc (by first | exact Nat.le_refl _ | (simp only [World.size_alloc]; omega)) (.cells #[.slice va a.length vc, .slice ua b.length uc] 24))
  have T_new0 := (Blk.new w #[.slice va a.length vc, .slice ua b.length uc] 24)
  have KT_00 := Lib.hid T_new0
  clear T_new0
  have V_1 := Lib.hid (HV.out.below a1)
  clear HV
  have U_1 := Lib.hid (HU.out.below a1)
  clear HU
  have B_1 := Lib.hid a1
  clear a1
  generalize (w.alloc (.cells #[.slice va a.length vc, .slice ua b.length uc] 24)) = w1 at V_1 U_1 KT_00 B_1 ⊢
  refine (works_any _).mono ?_
  rintro e w2 ⟨rfl, b2⟩
  have V_2 := Lib.hid (V_1.out.below b2)
  clear V_1
  have U_2 := Lib.hid (U_1.out.below b2)
  clear U_1
  have KT_2 := Lib.hid (KT_00.out.below b2 KT_00.out.lt)
  clear KT_00
  have B_2 := Lib.hid (B_1.out.trans (b2.mono B_1.out.size))
  clear B_1
  clear b2
  have lT_2 : w.heap.size < w2.heap.size := KT_2.out.lt
  have cT_0_2 : w2.cell? ⟨w.heap.size, 0, none⟩ = some (.slice va a.length vc) := KT_2.out.cell 0
  have cT_1_2 : w2.cell? ⟨w.heap.size, 1, none⟩ = some (.slice ua b.length uc) := KT_2.out.cell 1
  go_wp2_with fail
  clear lT_2 cT_0_2 cT_1_2
  refine (few_ex a b _ _ true _ V_2.out U_2.out H1.out).mono ?_
  rintro e w3 ⟨rfl, b3⟩
  have V_3 := Lib.hid (V_2.out.below b3)
  clear V_2
  have U_3 := Lib.hid (U_2.out.below b3)
  clear U_2
  have KT_3 := Lib.hid (KT_2.out.below b3 KT_2.out.lt)
  clear KT_2
  have B_3 := Lib.hid (B_2.out.trans (b3.mono B_2.out.size))
  clear B_2
  clear b3
  have lT_3 : w.heap.size < w3.heap.size := KT_3.out.lt
  have cT_0_3 : w3.cell? ⟨w.heap.size, 0, none⟩ = some (.slice va a.length vc) := KT_3.out.cell 0
  have cT_1_3 : w3.cell? ⟨w.heap.size, 1, none⟩ = some (.slice ua b.length uc) := KT_3.out.cell 1
  go_wp2_with fail
  clear lT_3 cT_0_3 cT_1_3
  refine (check_ex a b _ _ 0 _ V_3.out U_3.out ZA.out ZB.out H0.out).mono ?_
  rintro e w4 ⟨rfl, b4⟩
  have V_4 := Lib.hid (V_3.out.below b4)
  clear V_3
  have U_4 := Lib.hid (U_3.out.below b4)
  clear U_3
  have KT_4 := Lib.hid (KT_3.out.below b4 KT_3.out.lt)
  clear KT_3
  have B_4 := Lib.hid (B_3.out.trans (b4.mono B_3.out.size))
  clear B_3
  clear b4
  have lT_4 : w.heap.size < w4.heap.size := KT_4.out.lt
  have cT_0_4 : w4.cell? ⟨w.heap.size, 0, none⟩ = some (.slice va a.length vc) := KT_4.out.cell 0
  have cT_1_4 : w4.cell? ⟨w.heap.size, 1, none⟩ = some (.slice ua b.length uc) := KT_4.out.cell 1
  go_wp2_with fail
  clear lT_4 cT_0_4 cT_1_4
  refine (ahead_ex2 a b _ _ s ⟨#[]⟩ false _ V_4.out U_4.out ZA.out ZB.out HS.out HR.out).mono ?_
  rintro e w5 ⟨rfl, b5⟩
  have V_5 := Lib.hid (V_4.out.below b5)
  clear V_4
  have U_5 := Lib.hid (U_4.out.below b5)
  clear U_4
  have KT_5 := Lib.hid (KT_4.out.below b5 KT_4.out.lt)
  clear KT_4
  have B_5 := Lib.hid (B_4.out.trans (b5.mono B_4.out.size))
  clear B_4
  clear b5
  have lT_5 : w.heap.size < w5.heap.size := KT_5.out.lt
  have cT_0_5 : w5.cell? ⟨w.heap.size, 0, none⟩ = some (.slice va a.length vc) := KT_5.out.cell 0
  have cT_1_5 : w5.cell? ⟨w.heap.size, 1, none⟩ = some (.slice ua b.length uc) := KT_5.out.cell 1
  go_wp2_with fail
  clear lT_5 cT_0_5 cT_1_5
  refine (back_ex2 a b _ _ ⟨#[]⟩ ⟨#[]⟩ false _ V_5.out U_5.out ZA.out ZB.out HRZ.out HB.out).mono ?_
  rintro e w6 ⟨rfl, b6⟩
  have V_6 := Lib.hid (V_5.out.below b6)
  clear V_5
  have U_6 := Lib.hid (U_5.out.below b6)
  clear U_5
  have KT_6 := Lib.hid (KT_5.out.below b6 KT_5.out.lt)
  clear KT_5
  have B_6 := Lib.hid (B_5.out.trans (b6.mono B_5.out.size))
  clear B_5
  clear b6
  have lT_6 : w.heap.size < w6.heap.size := KT_6.out.lt
  have cT_0_6 : w6.cell? ⟨w.heap.size, 0, none⟩ = some (.slice va a.length vc) := KT_6.out.cell 0
  have cT_1_6 : w6.cell? ⟨w.heap.size, 1, none⟩ = some (.slice ua b.length uc) := KT_6.out.cell 1
  go_wp2_with fail
  clear lT_6 cT_0_6 cT_1_6
  refine (back_ex2 a b _ _ s c true _ V_6.out U_6.out ZA.out ZB.out HS.out HC.out).mono ?_
  rintro e w7 ⟨rfl, b7⟩
  have V_7 := Lib.hid (V_6.out.below b7)
  clear V_6
  have U_7 := Lib.hid (U_6.out.below b7)
  clear U_6
  have KT_7 := Lib.hid (KT_6.out.below b7 KT_6.out.lt)
  clear KT_6
  have B_7 := Lib.hid (B_6.out.trans (b7.mono B_6.out.size))
  clear B_6
  clear b7
  have lT_7 : w.heap.size < w7.heap.size := KT_7.out.lt
  have cT_0_7 : w7.cell? ⟨w.heap.size, 0, none⟩ = some (.slice va a.length vc) := KT_7.out.cell 0
  have cT_1_7 : w7.cell? ⟨w.heap.size, 1, none⟩ = some (.slice ua b.length uc) := KT_7.out.cell 1
  go_wp2_with fail
  clear lT_7 cT_0_7 cT_1_7
  refine (ahead_ex2 a b _ _ c s true _ V_7.out U_7.out ZA.out ZB.out HCZ.out HD.out).mono ?_
  rintro e w8 ⟨rfl, b8⟩
  have V_8 := Lib.hid (V_7.out.below b8)
  clear V_7
  have U_8 := Lib.hid (U_7.out.below b8)
  clear U_7
  have KT_8 := Lib.hid (KT_7.out.below b8 KT_7.out.lt)
  clear KT_7
  have B_8 := Lib.hid (B_7.out.trans (b8.mono B_7.out.size))
  clear B_7
  clear b8
  have lT_8 : w.heap.size < w8.heap.size := KT_8.out.lt
  have cT_0_8 : w8.cell? ⟨w.heap.size, 0, none⟩ = some (.slice va a.length vc) := KT_8.out.cell 0
  have cT_1_8 : w8.cell? ⟨w.heap.size, 1, none⟩ = some (.slice ua b.length uc) := KT_8.out.cell 1
  go_wp2_with fail
  clear lT_8 cT_0_8 cT_1_8
  refine (inv_ex a b _ _ 0 _ V_8.out U_8.out ZA.out ZB.out HN.out HN'.out H0'.out).mono ?_
  rintro e w9 ⟨V1, rfl, ht, b9⟩
  have V_9 := Lib.hid (V_8.out.below b9)
  clear V_8
  have U_9 := Lib.hid (U_8.out.below b9)
  clear U_8
  have KT_9 := Lib.hid (KT_8.out.below b9 KT_8.out.lt)
  clear KT_8
  have B_9 := Lib.hid (B_8.out.trans (b9.mono B_8.out.size))
  clear B_8
  clear b9
  rw [okL_yes rfl, okL_yes rfl] at ht
  obtain ⟨x1, x2, rfl, r1, r2⟩ := ht
  obtain ⟨xa, xc, rfl⟩ := row_slice r1
  obtain ⟨ya, yc, rfl⟩ := row_slice r2
  have X1 := Lib.hid r1
  clear r1
  have X2 := Lib.hid r2
  clear r2
  go_wp2_with fail
  have a2 : Below w9.heap.size w9 (w9.alloc (.cells #[.slice xa b.length xc, .slice ya a.length yc] 24)) := ((Below.refl w9.heap.size w9).alloc (by first | exact Nat.le_refl _ | (simp only [World.size_alloc]; omega)) (.cells #[.slice xa b.length xc, .slice ya a.length yc] 24))
  have X_new9 := (Blk.new w9 #[.slice xa b.length xc, .slice ya a.length yc] 24)
  have KX_09 := Lib.hid X_new9
  clear X_new9
  have V_10 := Lib.hid (V_9.out.below a2)
  clear V_9
  have U_10 := Lib.hid (U_9.out.below a2)
  clear U_9
  have X1_10 := Lib.hid (row_below X1.out a2)
  clear X1
  have X2_10 := Lib.hid (row_below X2.out a2)
  clear X2
  have KT_10 := Lib.hid (KT_9.out.below a2 KT_9.out.lt)
  clear KT_9
  have B_10 := Lib.hid (B_9.out.trans (a2.mono B_9.out.size))
  clear B_9
  clear a2
  generalize (w9.alloc (.cells #[.slice xa b.length xc, .slice ya a.length yc] 24)) = w10 at V_10 U_10 X1_10 X2_10 KT_10 KX_09 B_10 ⊢
  refine (ahead_ex2 b a _ _ s c true _ (Lst.of_row X1_10.out) (Lst.of_row X2_10.out) ZB.out ZA.out HS.out HC.out).mono ?_
  rintro e w11 ⟨rfl, b11⟩
  have V_11 := Lib.hid (V_10.out.below b11)
  clear V_10
  have U_11 := Lib.hid (U_10.out.below b11)
  clear U_10
  have X1_11 := Lib.hid (row_below X1_10.out b11)
  clear X1_10
  have X2_11 := Lib.hid (row_below X2_10.out b11)
  clear X2_10
  have KT_11 := Lib.hid (KT_10.out.below b11 KT_10.out.lt)
  clear KT_10
  have KX_11 := Lib.hid (KX_09.out.below b11 KX_09.out.lt)
  clear KX_09
  have B_11 := Lib.hid (B_10.out.trans (b11.mono B_10.out.size))
  clear B_10
  clear b11
  go_wp2_with fail
  have hss : (s.toList == s.toList) = true := beq_self_eq_true _
  have hcc : (c.toList == c.toList) = true := beq_self_eq_true _
  have HS12 : Hid (∀ X : World, Below w11.heap.size w11 X → X.cell? ⟨w.heap.size, 0, none⟩ = some (.slice va a.length vc) ∧ X.cell? ⟨w.heap.size, 1, none⟩ = some (.slice ua b.length uc) ∧ X.cell? ⟨w9.heap.size, 0, none⟩ = some (.slice xa b.length xc) ∧ X.cell? ⟨w9.heap.size, 1, none⟩ = some (.slice ya a.length yc) ∧ Below w11.heap.size w11 X) := Lib.hid fun X h => ⟨(h.cell (p := ⟨w.heap.size, 0, none⟩) KT_11.out.lt).trans (KT_11.out.cell 0), (h.cell (p := ⟨w.heap.size, 1, none⟩) KT_11.out.lt).trans (KT_11.out.cell 1), (h.cell (p := ⟨w9.heap.size, 0, none⟩) KX_11.out.lt).trans (KX_11.out.cell 0), (h.cell (p := ⟨w9.heap.size, 1, none⟩) KX_11.out.lt).trans (KX_11.out.cell 1), h⟩
  refine wp_region_held_drew (S := fun X => X.cell? ⟨w.heap.size, 0, none⟩ = some (.slice va a.length vc) ∧ X.cell? ⟨w.heap.size, 1, none⟩ = some (.slice ua b.length uc) ∧ X.cell? ⟨w9.heap.size, 0, none⟩ = some (.slice xa b.length xc) ∧ X.cell? ⟨w9.heap.size, 1, none⟩ = some (.slice ya a.length yc) ∧ Below w11.heap.size w11 X) (by kernel_rfl) (HS12.out _ (Below.refl _ _).drew) (fun hHeld => ?_)
  try (first | (refine take_yes (i := 0) (v := ?_) rfl (by kernel_rfl) (by decide +kernel) (by decide +kernel) (fun _ _ _ h => h) (by rfl) ?_ (by assumption) ?_; rotate_left; intro w hSw; (try dsimp only at hSw); go_simp; with_reducible rfl; simp only [Act.put, List.setIfInBounds_toArray, List.set_cons_zero, List.set_cons_succ]) | (refine take_no (i := 0) rfl (by kernel_rfl) (by decide +kernel) (by decide +kernel) (fun _ _ _ h => h) (by rfl) (by assumption) ?_; simp only [Act.put, List.setIfInBounds_toArray, List.set_cons_zero, List.set_cons_succ]))
  try (first | (refine take_yes (i := 1) (v := ?_) rfl (by kernel_rfl) (by decide +kernel) (by decide +kernel) (fun _ _ _ h => h) (by rfl) ?_ (by assumption) ?_; rotate_left; intro w hSw; (try dsimp only at hSw); go_simp; with_reducible rfl; simp only [Act.put, List.setIfInBounds_toArray, List.set_cons_zero, List.set_cons_succ]) | (refine take_no (i := 1) rfl (by kernel_rfl) (by decide +kernel) (by decide +kernel) (fun _ _ _ h => h) (by rfl) (by assumption) ?_; simp only [Act.put, List.setIfInBounds_toArray, List.set_cons_zero, List.set_cons_succ]))
  try (first | (refine take_yes (i := 2) (v := ?_) rfl (by kernel_rfl) (by decide +kernel) (by decide +kernel) (fun _ _ _ h => h) (by rfl) ?_ (by assumption) ?_; rotate_left; intro w hSw; (try dsimp only at hSw); go_simp; with_reducible rfl; simp only [Act.put, List.setIfInBounds_toArray, List.set_cons_zero, List.set_cons_succ]) | (refine take_no (i := 2) rfl (by kernel_rfl) (by decide +kernel) (by decide +kernel) (fun _ _ _ h => h) (by rfl) (by assumption) ?_; simp only [Act.put, List.setIfInBounds_toArray, List.set_cons_zero, List.set_cons_succ]))
  try (first | (refine take_yes (i := 3) (v := ?_) rfl (by kernel_rfl) (by decide +kernel) (by decide +kernel) (fun _ _ _ h => h) (by rfl) ?_ (by assumption) ?_; rotate_left; intro w hSw; (try dsimp only at hSw); go_simp; with_reducible rfl; simp only [Act.put, List.setIfInBounds_toArray, List.set_cons_zero, List.set_cons_succ]) | (refine take_no (i := 3) rfl (by kernel_rfl) (by decide +kernel) (by decide +kernel) (fun _ _ _ h => h) (by rfl) (by assumption) ?_; simp only [Act.put, List.setIfInBounds_toArray, List.set_cons_zero, List.set_cons_succ]))
  try (first | (refine take_yes (i := 4) (v := ?_) rfl (by kernel_rfl) (by decide +kernel) (by decide +kernel) (fun _ _ _ h => h) (by rfl) ?_ (by assumption) ?_; rotate_left; intro w hSw; (try dsimp only at hSw); go_simp; with_reducible rfl; simp only [Act.put, List.setIfInBounds_toArray, List.set_cons_zero, List.set_cons_succ]) | (refine take_no (i := 4) rfl (by kernel_rfl) (by decide +kernel) (by decide +kernel) (fun _ _ _ h => h) (by rfl) (by assumption) ?_; simp only [Act.put, List.setIfInBounds_toArray, List.set_cons_zero, List.set_cons_succ]))
  try (first | (refine take_yes (i := 5) (v := ?_) rfl (by kernel_rfl) (by decide +kernel) (by decide +kernel) (fun _ _ _ h => h) (by rfl) ?_ (by assumption) ?_; rotate_left; intro w hSw; (try dsimp only at hSw); go_simp; with_reducible rfl; simp only [Act.put, List.setIfInBounds_toArray, List.set_cons_zero, List.set_cons_succ]) | (refine take_no (i := 5) rfl (by kernel_rfl) (by decide +kernel) (by decide +kernel) (fun _ _ _ h => h) (by rfl) (by assumption) ?_; simp only [Act.put, List.setIfInBounds_toArray, List.set_cons_zero, List.set_cons_succ]))
  try (first | (refine take_yes (i := 6) (v := ?_) rfl (by kernel_rfl) (by decide +kernel) (by decide +kernel) (fun _ _ _ h => h) (by rfl) ?_ (by assumption) ?_; rotate_left; intro w hSw; (try dsimp only at hSw); go_simp; with_reducible rfl; simp only [Act.put, List.setIfInBounds_toArray, List.set_cons_zero, List.set_cons_succ]) | (refine take_no (i := 6) rfl (by kernel_rfl) (by decide +kernel) (by decide +kernel) (fun _ _ _ h => h) (by rfl) (by assumption) ?_; simp only [Act.put, List.setIfInBounds_toArray, List.set_cons_zero, List.set_cons_succ]))
  try (first | (refine take_yes (i := 7) (v := ?_) rfl (by kernel_rfl) (by decide +kernel) (by decide +kernel) (fun _ _ _ h => h) (by rfl) ?_ (by assumption) ?_; rotate_left; intro w hSw; (try dsimp only at hSw); go_simp; with_reducible rfl; simp only [Act.put, List.setIfInBounds_toArray, List.set_cons_zero, List.set_cons_succ]) | (refine take_no (i := 7) rfl (by kernel_rfl) (by decide +kernel) (by decide +kernel) (fun _ _ _ h => h) (by rfl) (by assumption) ?_; simp only [Act.put, List.setIfInBounds_toArray, List.set_cons_zero, List.set_cons_succ]))
  try (first | (refine take_yes (i := 8) (v := ?_) rfl (by kernel_rfl) (by decide +kernel) (by decide +kernel) (fun _ _ _ h => h) (by rfl) ?_ (by assumption) ?_; rotate_left; intro w hSw; (try dsimp only at hSw); go_simp; with_reducible rfl; simp only [Act.put, List.setIfInBounds_toArray, List.set_cons_zero, List.set_cons_succ]) | (refine take_no (i := 8) rfl (by kernel_rfl) (by decide +kernel) (by decide +kernel) (fun _ _ _ h => h) (by rfl) (by assumption) ?_; simp only [Act.put, List.setIfInBounds_toArray, List.set_cons_zero, List.set_cons_succ]))
  try (first | (refine take_yes (i := 9) (v := ?_) rfl (by kernel_rfl) (by decide +kernel) (by decide +kernel) (fun _ _ _ h => h) (by rfl) ?_ (by assumption) ?_; rotate_left; intro w hSw; (try dsimp only at hSw); go_simp; with_reducible rfl; simp only [Act.put, List.setIfInBounds_toArray, List.set_cons_zero, List.set_cons_succ]) | (refine take_no (i := 9) rfl (by kernel_rfl) (by decide +kernel) (by decide +kernel) (fun _ _ _ h => h) (by rfl) (by assumption) ?_; simp only [Act.put, List.setIfInBounds_toArray, List.set_cons_zero, List.set_cons_succ]))
  try (first | (refine take_yes (i := 10) (v := ?_) rfl (by kernel_rfl) (by decide +kernel) (by decide +kernel) (fun _ _ _ h => h) (by rfl) ?_ (by assumption) ?_; rotate_left; intro w hSw; (try dsimp only at hSw); go_simp; with_reducible rfl; simp only [Act.put, List.setIfInBounds_toArray, List.set_cons_zero, List.set_cons_succ]) | (refine take_no (i := 10) rfl (by kernel_rfl) (by decide +kernel) (by decide +kernel) (fun _ _ _ h => h) (by rfl) (by assumption) ?_; simp only [Act.put, List.setIfInBounds_toArray, List.set_cons_zero, List.set_cons_succ]))
  try (first | (refine take_yes (i := 11) (v := ?_) rfl (by kernel_rfl) (by decide +kernel) (by decide +kernel) (fun _ _ _ h => h) (by rfl) ?_ (by assumption) ?_; rotate_left; intro w hSw; (try dsimp only at hSw); go_simp; with_reducible rfl; simp only [Act.put, List.setIfInBounds_toArray, List.set_cons_zero, List.set_cons_succ]) | (refine take_no (i := 11) rfl (by kernel_rfl) (by decide +kernel) (by decide +kernel) (fun _ _ _ h => h) (by rfl) (by assumption) ?_; simp only [Act.put, List.setIfInBounds_toArray, List.set_cons_zero, List.set_cons_succ]))
  try (first | (refine take_yes (i := 12) (v := ?_) rfl (by kernel_rfl) (by decide +kernel) (by decide +kernel) (fun _ _ _ h => h) (by rfl) ?_ (by assumption) ?_; rotate_left; intro w hSw; (try dsimp only at hSw); go_simp; with_reducible rfl; simp only [Act.put, List.setIfInBounds_toArray, List.set_cons_zero, List.set_cons_succ]) | (refine take_no (i := 12) rfl (by kernel_rfl) (by decide +kernel) (by decide +kernel) (fun _ _ _ h => h) (by rfl) (by assumption) ?_; simp only [Act.put, List.setIfInBounds_toArray, List.set_cons_zero, List.set_cons_succ]))
  try (first | (refine take_yes (i := 13) (v := ?_) rfl (by kernel_rfl) (by decide +kernel) (by decide +kernel) (fun _ _ _ h => h) (by rfl) ?_ (by assumption) ?_; rotate_left; intro w hSw; (try dsimp only at hSw); go_simp; with_reducible rfl; simp only [Act.put, List.setIfInBounds_toArray, List.set_cons_zero, List.set_cons_succ]) | (refine take_no (i := 13) rfl (by kernel_rfl) (by decide +kernel) (by decide +kernel) (fun _ _ _ h => h) (by rfl) (by assumption) ?_; simp only [Act.put, List.setIfInBounds_toArray, List.set_cons_zero, List.set_cons_succ]))
  try (first | (refine take_yes (i := 14) (v := ?_) rfl (by kernel_rfl) (by decide +kernel) (by decide +kernel) (fun _ _ _ h => h) (by rfl) ?_ (by assumption) ?_; rotate_left; intro w hSw; (try dsimp only at hSw); go_simp; with_reducible rfl; simp only [Act.put, List.setIfInBounds_toArray, List.set_cons_zero, List.set_cons_succ]) | (refine take_no (i := 14) rfl (by kernel_rfl) (by decide +kernel) (by decide +kernel) (fun _ _ _ h => h) (by rfl) (by assumption) ?_; simp only [Act.put, List.setIfInBounds_toArray, List.set_cons_zero, List.set_cons_succ]))
  try (first | (refine take_yes (i := 15) (v := ?_) rfl (by kernel_rfl) (by decide +kernel) (by decide +kernel) (fun _ _ _ h => h) (by rfl) ?_ (by assumption) ?_; rotate_left; intro w hSw; (try dsimp only at hSw); go_simp; with_reducible rfl; simp only [Act.put, List.setIfInBounds_toArray, List.set_cons_zero, List.set_cons_succ]) | (refine take_no (i := 15) rfl (by kernel_rfl) (by decide +kernel) (by decide +kernel) (fun _ _ _ h => h) (by rfl) (by assumption) ?_; simp only [Act.put, List.setIfInBounds_toArray, List.set_cons_zero, List.set_cons_succ]))
  try (first | (refine take_yes (i := 16) (v := ?_) rfl (by kernel_rfl) (by decide +kernel) (by decide +kernel) (fun _ _ _ h => h) (by rfl) ?_ (by assumption) ?_; rotate_left; intro w hSw; (try dsimp only at hSw); go_simp; with_reducible rfl; simp only [Act.put, List.setIfInBounds_toArray, List.set_cons_zero, List.set_cons_succ]) | (refine take_no (i := 16) rfl (by kernel_rfl) (by decide +kernel) (by decide +kernel) (fun _ _ _ h => h) (by rfl) (by assumption) ?_; simp only [Act.put, List.setIfInBounds_toArray, List.set_cons_zero, List.set_cons_succ]))
  try (first | (refine take_yes (i := 17) (v := ?_) rfl (by kernel_rfl) (by decide +kernel) (by decide +kernel) (fun _ _ _ h => h) (by rfl) ?_ (by assumption) ?_; rotate_left; intro w hSw; (try dsimp only at hSw); go_simp; with_reducible rfl; simp only [Act.put, List.setIfInBounds_toArray, List.set_cons_zero, List.set_cons_succ]) | (refine take_no (i := 17) rfl (by kernel_rfl) (by decide +kernel) (by decide +kernel) (fun _ _ _ h => h) (by rfl) (by assumption) ?_; simp only [Act.put, List.setIfInBounds_toArray, List.set_cons_zero, List.set_cons_succ]))
  try (first | (refine take_yes (i := 18) (v := ?_) rfl (by kernel_rfl) (by decide +kernel) (by decide +kernel) (fun _ _ _ h => h) (by rfl) ?_ (by assumption) ?_; rotate_left; intro w hSw; (try dsimp only at hSw); go_simp; with_reducible rfl; simp only [Act.put, List.setIfInBounds_toArray, List.set_cons_zero, List.set_cons_succ]) | (refine take_no (i := 18) rfl (by kernel_rfl) (by decide +kernel) (by decide +kernel) (fun _ _ _ h => h) (by rfl) (by assumption) ?_; simp only [Act.put, List.setIfInBounds_toArray, List.set_cons_zero, List.set_cons_succ]))
  try (first | (refine take_yes (i := 19) (v := ?_) rfl (by kernel_rfl) (by decide +kernel) (by decide +kernel) (fun _ _ _ h => h) (by rfl) ?_ (by assumption) ?_; rotate_left; intro w hSw; (try dsimp only at hSw); go_simp; with_reducible rfl; simp only [Act.put, List.setIfInBounds_toArray, List.set_cons_zero, List.set_cons_succ]) | (refine take_no (i := 19) rfl (by kernel_rfl) (by decide +kernel) (by decide +kernel) (fun _ _ _ h => h) (by rfl) (by assumption) ?_; simp only [Act.put, List.setIfInBounds_toArray, List.set_cons_zero, List.set_cons_succ]))
  try (first | (refine take_yes (i := 20) (v := ?_) rfl (by kernel_rfl) (by decide +kernel) (by decide +kernel) (fun _ _ _ h => h) (by rfl) ?_ (by assumption) ?_; rotate_left; intro w hSw; (try dsimp only at hSw); go_simp; with_reducible rfl; simp only [Act.put, List.setIfInBounds_toArray, List.set_cons_zero, List.set_cons_succ]) | (refine take_no (i := 20) rfl (by kernel_rfl) (by decide +kernel) (by decide +kernel) (fun _ _ _ h => h) (by rfl) (by assumption) ?_; simp only [Act.put, List.setIfInBounds_toArray, List.set_cons_zero, List.set_cons_succ]))
  try (first | (refine take_yes (i := 21) (v := ?_) rfl (by kernel_rfl) (by decide +kernel) (by decide +kernel) (fun _ _ _ h => h) (by rfl) ?_ (by assumption) ?_; rotate_left; intro w hSw; (try dsimp only at hSw); go_simp; with_reducible rfl; simp only [Act.put, List.setIfInBounds_toArray, List.set_cons_zero, List.set_cons_succ]) | (refine take_no (i := 21) rfl (by kernel_rfl) (by decide +kernel) (by decide +kernel) (fun _ _ _ h => h) (by rfl) (by assumption) ?_; simp only [Act.put, List.setIfInBounds_toArray, List.set_cons_zero, List.set_cons_succ]))
  try (first | (refine take_yes (i := 22) (v := ?_) rfl (by kernel_rfl) (by decide +kernel) (by decide +kernel) (fun _ _ _ h => h) (by rfl) ?_ (by assumption) ?_; rotate_left; intro w hSw; (try dsimp only at hSw); go_simp; with_reducible rfl; simp only [Act.put, List.setIfInBounds_toArray, List.set_cons_zero, List.set_cons_succ]) | (refine take_no (i := 22) rfl (by kernel_rfl) (by decide +kernel) (by decide +kernel) (fun _ _ _ h => h) (by rfl) (by assumption) ?_; simp only [Act.put, List.setIfInBounds_toArray, List.set_cons_zero, List.set_cons_succ]))
  try (first | (refine take_yes (i := 23) (v := ?_) rfl (by kernel_rfl) (by decide +kernel) (by decide +kernel) (fun _ _ _ h => h) (by rfl) ?_ (by assumption) ?_; rotate_left; intro w hSw; (try dsimp only at hSw); go_simp; with_reducible rfl; simp only [Act.put, List.setIfInBounds_toArray, List.set_cons_zero, List.set_cons_succ]) | (refine take_no (i := 23) rfl (by kernel_rfl) (by decide +kernel) (by decide +kernel) (fun _ _ _ h => h) (by rfl) (by assumption) ?_; simp only [Act.put, List.setIfInBounds_toArray, List.set_cons_zero, List.set_cons_succ]))
  try (first | (refine take_yes (i := 24) (v := ?_) rfl (by kernel_rfl) (by decide +kernel) (by decide +kernel) (fun _ _ _ h => h) (by rfl) ?_ (by assumption) ?_; rotate_left; intro w hSw; (try dsimp only at hSw); go_simp; with_reducible rfl; simp only [Act.put, List.setIfInBounds_toArray, List.set_cons_zero, List.set_cons_succ]) | (refine take_no (i := 24) rfl (by kernel_rfl) (by decide +kernel) (by decide +kernel) (fun _ _ _ h => h) (by rfl) (by assumption) ?_; simp only [Act.put, List.setIfInBounds_toArray, List.set_cons_zero, List.set_cons_succ]))
  try (first | (refine take_yes (i := 25) (v := ?_) rfl (by kernel_rfl) (by decide +kernel) (by decide +kernel) (fun _ _ _ h => h) (by rfl) ?_ (by assumption) ?_; rotate_left; intro w hSw; (try dsimp only at hSw); go_simp; with_reducible rfl; simp only [Act.put, List.setIfInBounds_toArray, List.set_cons_zero, List.set_cons_succ]) | (refine take_no (i := 25) rfl (by kernel_rfl) (by decide +kernel) (by decide +kernel) (fun _ _ _ h => h) (by rfl) (by assumption) ?_; simp only [Act.put, List.setIfInBounds_toArray, List.set_cons_zero, List.set_cons_succ]))
  try (first | (refine take_yes (i := 26) (v := ?_) rfl (by kernel_rfl) (by decide +kernel) (by decide +kernel) (fun _ _ _ h => h) (by rfl) ?_ (by assumption) ?_; rotate_left; intro w hSw; (try dsimp only at hSw); go_simp; with_reducible rfl; simp only [Act.put, List.setIfInBounds_toArray, List.set_cons_zero, List.set_cons_succ]) | (refine take_no (i := 26) rfl (by kernel_rfl) (by decide +kernel) (by decide +kernel) (fun _ _ _ h => h) (by rfl) (by assumption) ?_; simp only [Act.put, List.setIfInBounds_toArray, List.set_cons_zero, List.set_cons_succ]))
  try (first | (refine take_yes (i := 27) (v := ?_) rfl (by kernel_rfl) (by decide +kernel) (by decide +kernel) (fun _ _ _ h => h) (by rfl) ?_ (by assumption) ?_; rotate_left; intro w hSw; (try dsimp only at hSw); go_simp; with_reducible rfl; simp only [Act.put, List.setIfInBounds_toArray, List.set_cons_zero, List.set_cons_succ]) | (refine take_no (i := 27) rfl (by kernel_rfl) (by decide +kernel) (by decide +kernel) (fun _ _ _ h => h) (by rfl) (by assumption) ?_; simp only [Act.put, List.setIfInBounds_toArray, List.set_cons_zero, List.set_cons_succ]))
  try (first | (refine take_yes (i := 28) (v := ?_) rfl (by kernel_rfl) (by decide +kernel) (by decide +kernel) (fun _ _ _ h => h) (by rfl) ?_ (by assumption) ?_; rotate_left; intro w hSw; (try dsimp only at hSw); go_simp; with_reducible rfl; simp only [Act.put, List.setIfInBounds_toArray, List.set_cons_zero, List.set_cons_succ]) | (refine take_no (i := 28) rfl (by kernel_rfl) (by decide +kernel) (by decide +kernel) (fun _ _ _ h => h) (by rfl) (by assumption) ?_; simp only [Act.put, List.setIfInBounds_toArray, List.set_cons_zero, List.set_cons_succ]))
  try (first | (refine take_yes (i := 29) (v := ?_) rfl (by kernel_rfl) (by decide +kernel) (by decide +kernel) (fun _ _ _ h => h) (by rfl) ?_ (by assumption) ?_; rotate_left; intro w hSw; (try dsimp only at hSw); go_simp; with_reducible rfl; simp only [Act.put, List.setIfInBounds_toArray, List.set_cons_zero, List.set_cons_succ]) | (refine take_no (i := 29) rfl (by kernel_rfl) (by decide +kernel) (by decide +kernel) (fun _ _ _ h => h) (by rfl) (by assumption) ?_; simp only [Act.put, List.setIfInBounds_toArray, List.set_cons_zero, List.set_cons_succ]))
  try (first | (refine take_yes (i := 30) (v := ?_) rfl (by kernel_rfl) (by decide +kernel) (by decide +kernel) (fun _ _ _ h => h) (by rfl) ?_ (by assumption) ?_; rotate_left; intro w hSw; (try dsimp only at hSw); go_simp; with_reducible rfl; simp only [Act.put, List.setIfInBounds_toArray, List.set_cons_zero, List.set_cons_succ]) | (refine take_no (i := 30) rfl (by kernel_rfl) (by decide +kernel) (by decide +kernel) (fun _ _ _ h => h) (by rfl) (by assumption) ?_; simp only [Act.put, List.setIfInBounds_toArray, List.set_cons_zero, List.set_cons_succ]))
  try (first | (refine take_yes (i := 31) (v := ?_) rfl (by kernel_rfl) (by decide +kernel) (by decide +kernel) (fun _ _ _ h => h) (by rfl) ?_ (by assumption) ?_; rotate_left; intro w hSw; (try dsimp only at hSw); go_simp; with_reducible rfl; simp only [Act.put, List.setIfInBounds_toArray, List.set_cons_zero, List.set_cons_succ]) | (refine take_no (i := 31) rfl (by kernel_rfl) (by decide +kernel) (by decide +kernel) (fun _ _ _ h => h) (by rfl) (by assumption) ?_; simp only [Act.put, List.setIfInBounds_toArray, List.set_cons_zero, List.set_cons_succ]))
  try (first | (refine take_yes (i := 32) (v := ?_) rfl (by kernel_rfl) (by decide +kernel) (by decide +kernel) (fun _ _ _ h => h) (by rfl) ?_ (by assumption) ?_; rotate_left; intro w hSw; (try dsimp only at hSw); go_simp; with_reducible rfl; simp only [Act.put, List.setIfInBounds_toArray, List.set_cons_zero, List.set_cons_succ]) | (refine take_no (i := 32) rfl (by kernel_rfl) (by decide +kernel) (by decide +kernel) (fun _ _ _ h => h) (by rfl) (by assumption) ?_; simp only [Act.put, List.setIfInBounds_toArray, List.set_cons_zero, List.set_cons_succ]))
  try (first | (refine take_yes (i := 33) (v := ?_) rfl (by kernel_rfl) (by decide +kernel) (by decide +kernel) (fun _ _ _ h => h) (by rfl) ?_ (by assumption) ?_; rotate_left; intro w hSw; (try dsimp only at hSw); go_simp; with_reducible rfl; simp only [Act.put, List.setIfInBounds_toArray, List.set_cons_zero, List.set_cons_succ]) | (refine take_no (i := 33) rfl (by kernel_rfl) (by decide +kernel) (by decide +kernel) (fun _ _ _ h => h) (by rfl) (by assumption) ?_; simp only [Act.put, List.setIfInBounds_toArray, List.set_cons_zero, List.set_cons_succ]))
  try (first | (refine take_yes (i := 34) (v := ?_) rfl (by kernel_rfl) (by decide +kernel) (by decide +kernel) (fun _ _ _ h => h) (by rfl) ?_ (by assumption) ?_; rotate_left; intro w hSw; (try dsimp only at hSw); go_simp; with_reducible rfl; simp only [Act.put, List.setIfInBounds_toArray, List.set_cons_zero, List.set_cons_succ]) | (refine take_no (i := 34) rfl (by kernel_rfl) (by decide +kernel) (by decide +kernel) (fun _ _ _ h => h) (by rfl) (by assumption) ?_; simp only [Act.put, List.setIfInBounds_toArray, List.set_cons_zero, List.set_cons_succ]))
  try (first | (refine take_yes (i := 35) (v := ?_) rfl (by kernel_rfl) (by decide +kernel) (by decide +kernel) (fun _ _ _ h => h) (by rfl) ?_ (by assumption) ?_; rotate_left; intro w hSw; (try dsimp only at hSw); go_simp; with_reducible rfl; simp only [Act.put, List.setIfInBounds_toArray, List.set_cons_zero, List.set_cons_succ]) | (refine take_no (i := 35) rfl (by kernel_rfl) (by decide +kernel) (by decide +kernel) (fun _ _ _ h => h) (by rfl) (by assumption) ?_; simp only [Act.put, List.setIfInBounds_toArray, List.set_cons_zero, List.set_cons_succ]))
  try (first | (refine take_yes (i := 36) (v := ?_) rfl (by kernel_rfl) (by decide +kernel) (by decide +kernel) (fun _ _ _ h => h) (by rfl) ?_ (by assumption) ?_; rotate_left; intro w hSw; (try dsimp only at hSw); go_simp; with_reducible rfl; simp only [Act.put, List.setIfInBounds_toArray, List.set_cons_zero, List.set_cons_succ]) | (refine take_no (i := 36) rfl (by kernel_rfl) (by decide +kernel) (by decide +kernel) (fun _ _ _ h => h) (by rfl) (by assumption) ?_; simp only [Act.put, List.setIfInBounds_toArray, List.set_cons_zero, List.set_cons_succ]))
  try (first | (refine take_yes (i := 38) (v := ?_) rfl (by kernel_rfl) (by decide +kernel) (by decide +kernel) (fun _ _ _ h => h) (by rfl) ?_ (by assumption) ?_; rotate_left; intro w hSw; (try dsimp only at hSw); go_simp; with_reducible rfl; simp only [Act.put, List.setIfInBounds_toArray, List.set_cons_zero, List.set_cons_succ]) | (refine take_no (i := 38) rfl (by kernel_rfl) (by decide +kernel) (by decide +kernel) (fun _ _ _ h => h) (by rfl) (by assumption) ?_; simp only [Act.put, List.setIfInBounds_toArray, List.set_cons_zero, List.set_cons_succ]))
  try (first | (refine take_yes (i := 40) (v := ?_) rfl (by kernel_rfl) (by decide +kernel) (by decide +kernel) (fun _ _ _ h => h) (by rfl) ?_ (by assumption) ?_; rotate_left; intro w hSw; (try dsimp only at hSw); go_simp; with_reducible rfl; simp only [Act.put, List.setIfInBounds_toArray, List.set_cons_zero, List.set_cons_succ]) | (refine take_no (i := 40) rfl (by kernel_rfl) (by decide +kernel) (by decide +kernel) (fun _ _ _ h => h) (by rfl) (by assumption) ?_; simp only [Act.put, List.setIfInBounds_toArray, List.set_cons_zero, List.set_cons_succ]))
  try (first | (refine take_yes (i := 41) (v := ?_) rfl (by kernel_rfl) (by decide +kernel) (by decide +kernel) (fun _ _ _ h => h) (by rfl) ?_ (by assumption) ?_; rotate_left; intro w hSw; (try dsimp only at hSw); go_simp; with_reducible rfl; simp only [Act.put, List.setIfInBounds_toArray, List.set_cons_zero, List.set_cons_succ]) | (refine take_no (i := 41) rfl (by kernel_rfl) (by decide +kernel) (by decide +kernel) (fun _ _ _ h => h) (by rfl) (by assumption) ?_; simp only [Act.put, List.setIfInBounds_toArray, List.set_cons_zero, List.set_cons_succ]))
  refine take_this (i := 37) (by decide +kernel) rfl (by rfl) (fun K hK => ?_)
  go_simp
  go_at_call 27; (with_reducible refine (inv_ex b a _ _ 0 _ (Lst.of_row (ec := stc) (l := b) (row_below X1_11.out (Below.refl _ _).drew)) (Lst.of_row (ec := stc) (l := a) (row_below X2_11.out (Below.refl _ _).drew)) ZB.out ZA.out (nilFine_row X1_11.out) (nilFine_row X2_11.out) H0.out).mono ?_); rintro e w12 ⟨V2, rfl, ht, hb⟩
  have rB12 : Below w11.heap.size w11 w12 := ((Below.refl w11.heap.size w11).drew).trans (hb.mono (Nat.le_refl _))
  rw [okL_yes rfl, okL_yes rfl] at ht
  obtain ⟨x1, x2, rfl, q1, q2⟩ := ht
  obtain ⟨za, zc, rfl⟩ := row_slice q1
  obtain ⟨wa, wc, rfl⟩ := row_slice q2
  clear hb
  try go_simp
  refine hK.out _ _ (HS12.out _ rB12) (fun hHeld => ?_)
  clear hK
  try simp only [Act.put, List.setIfInBounds_toArray, List.set_cons_zero, List.set_cons_succ]
  try (first | (refine take_yes (i := 38) (v := ?_) rfl (by kernel_rfl) (by decide +kernel) (by decide +kernel) (fun _ _ _ h => h) (by rfl) ?_ (by assumption) ?_; rotate_left; intro w hSw; (try dsimp only at hSw); go_simp; with_reducible rfl; simp only [Act.put, List.setIfInBounds_toArray, List.set_cons_zero, List.set_cons_succ]) | (refine take_no (i := 38) rfl (by kernel_rfl) (by decide +kernel) (by decide +kernel) (fun _ _ _ h => h) (by rfl) (by assumption) ?_; simp only [Act.put, List.setIfInBounds_toArray, List.set_cons_zero, List.set_cons_succ]))
  try (first | (refine take_yes (i := 40) (v := ?_) rfl (by kernel_rfl) (by decide +kernel) (by decide +kernel) (fun _ _ _ h => h) (by rfl) ?_ (by assumption) ?_; rotate_left; intro w hSw; (try dsimp only at hSw); go_simp; with_reducible rfl; simp only [Act.put, List.setIfInBounds_toArray, List.set_cons_zero, List.set_cons_succ]) | (refine take_no (i := 40) rfl (by kernel_rfl) (by decide +kernel) (by decide +kernel) (fun _ _ _ h => h) (by rfl) (by assumption) ?_; simp only [Act.put, List.setIfInBounds_toArray, List.set_cons_zero, List.set_cons_succ]))
  try (first | (refine take_yes (i := 41) (v := ?_) rfl (by kernel_rfl) (by decide +kernel) (by decide +kernel) (fun _ _ _ h => h) (by rfl) ?_ (by assumption) ?_; rotate_left; intro w hSw; (try dsimp only at hSw); go_simp; with_reducible rfl; simp only [Act.put, List.setIfInBounds_toArray, List.set_cons_zero, List.set_cons_succ]) | (refine take_no (i := 41) rfl (by kernel_rfl) (by decide +kernel) (by decide +kernel) (fun _ _ _ h => h) (by rfl) (by assumption) ?_; simp only [Act.put, List.setIfInBounds_toArray, List.set_cons_zero, List.set_cons_succ]))
  refine take_this (i := 39) (by decide +kernel) rfl (by rfl) (fun K hK => ?_)
  go_simp
  go_at_call 25; (with_reducible refine (same_ex a b a b _ _ _ _ true _ (by omega) (by omega) (by omega) (by omega) (Lst.of_row q1) (Lst.of_row q2) (V_11.out.below rB12) (U_11.out.below rB12) (both_self a b)).mono ?_); rintro e w12 ⟨rfl, hb⟩
  have rB12 : Below w11.heap.size w11 w12 := rB12.trans (hb.mono rB12.size)
  clear hb
  try go_simp
  refine hK.out _ _ (HS12.out _ rB12) (fun hHeld => ?_)
  clear hK
  try simp only [Act.put, List.setIfInBounds_toArray, List.set_cons_zero, List.set_cons_succ]
  try (first | (refine take_yes (i := 40) (v := ?_) rfl (by kernel_rfl) (by decide +kernel) (by decide +kernel) (fun _ _ _ h => h) (by rfl) ?_ (by assumption) ?_; rotate_left; intro w hSw; (try dsimp only at hSw); go_simp; with_reducible rfl; simp only [Act.put, List.setIfInBounds_toArray, List.set_cons_zero, List.set_cons_succ]) | (refine take_no (i := 40) rfl (by kernel_rfl) (by decide +kernel) (by decide +kernel) (fun _ _ _ h => h) (by rfl) (by assumption) ?_; simp only [Act.put, List.setIfInBounds_toArray, List.set_cons_zero, List.set_cons_succ]))
  try (first | (refine take_yes (i := 41) (v := ?_) rfl (by kernel_rfl) (by decide +kernel) (by decide +kernel) (fun _ _ _ h => h) (by rfl) ?_ (by assumption) ?_; rotate_left; intro w hSw; (try dsimp only at hSw); go_simp; with_reducible rfl; simp only [Act.put, List.setIfInBounds_toArray, List.set_cons_zero, List.set_cons_succ]) | (refine take_no (i := 41) rfl (by kernel_rfl) (by decide +kernel) (by decide +kernel) (fun _ _ _ h => h) (by rfl) (by assumption) ?_; simp only [Act.put, List.setIfInBounds_toArray, List.set_cons_zero, List.set_cons_succ]))
  refine wpAnyH_done (by decide +kernel) ?_ _
  have b12 := rB12
  clear HS12
  have V_12 := Lib.hid (V_11.out.below b12)
  clear V_11
  have U_12 := Lib.hid (U_11.out.below b12)
  clear U_11
  have X1_12 := Lib.hid (row_below X1_11.out b12)
  clear X1_11
  have X2_12 := Lib.hid (row_below X2_11.out b12)
  clear X2_11
  have KT_12 := Lib.hid (KT_11.out.below b12 KT_11.out.lt)
  clear KT_11
  have KX_12 := Lib.hid (KX_11.out.below b12 KX_11.out.lt)
  clear KX_11
  have B_12 := Lib.hid (B_11.out.trans (b12.mono B_11.out.size))
  clear B_11
  go_wp2
  go_ret
  exact ⟨rfl, B_12.out⟩

theorem back_ff (a b : List ByteArray) (v u : Value) (s : ByteArray) (w : World) (hv : Lst stc w v a) (hu : Lst stc w u b) (hn : NilFine v) (hn' : NilFine u) (hs : s.size ≤ maxLen) (h1 : (fewB a 210 && fewB b 210) = true) (h0 : checkF a b = 0) (r c : ByteArray) (hr : aheadF a b s = (r, false)) (hc : aheadF b a s = (c, false)) :
    Calls Try.prog 5 #[.agg #[v, u], .string s] w fun e w' => e = .returned (.bool true) ∧ Below w.heap.size w w' := by
  obtain ⟨f1, f2⟩ := Bool.and_eq_true_iff.1 h1
  obtain ⟨la, za⟩ := few_of f1
  obtain ⟨lb, zb⟩ := few_of f2
  clear f1 f2
  have hrz := aheadF_size hr zb
  have hcz := aheadF_size hc za
  have h0' := check_turn.1 h0
  obtain rfl := aheadF_none hr
  have hb := aheadF_empty b a
  obtain rfl := aheadF_none hc
  have hd := aheadF_empty a b
  have H1 := Lib.hid h1
  have ZA := Lib.hid za
  have ZB := Lib.hid zb
  have H0 := Lib.hid h0
  have H0' := Lib.hid h0'
  have HR := Lib.hid hr
  have HC := Lib.hid hc
  have HB := Lib.hid hb
  have HD := Lib.hid hd
  have HS := Lib.hid hs
  have HRZ := Lib.hid hrz
  have HCZ := Lib.hid hcz
  have HN := Lib.hid hn
  have HN' := Lib.hid hn'
  clear h1 za zb h0 h0' hr hc hb hd hs hrz hcz hn hn'
  have HV := Lib.hid hv
  have HU := Lib.hid hu
  obtain ⟨va, vc, rfl⟩ := hv.slice
  obtain ⟨ua, uc, rfl⟩ := hu.slice
  clear hv hu
  go_enter Try.func5, Try.ntmps5
  go_wp2_with fail
  have a1 : Below w.heap.size w (w.alloc (.cells #[.slice va a.length vc, .slice ua b.length uc] 24)) := ((Below.refl w.heap.size w).alloc (by first | exact Nat.le_refl _ | (simp only [World.size_alloc]; omega)) (.cells #[.slice va a.length vc, .slice ua b.length uc] 24))
  have T_new0 := (Blk.new w #[.slice va a.length vc, .slice ua b.length uc] 24)
  have KT_00 := Lib.hid T_new0
  clear T_new0
  have V_1 := Lib.hid (HV.out.below a1)
  clear HV
  have U_1 := Lib.hid (HU.out.below a1)
  clear HU
  have B_1 := Lib.hid a1
  clear a1
  generalize (w.alloc (.cells #[.slice va a.length vc, .slice ua b.length uc] 24)) = w1 at V_1 U_1 KT_00 B_1 ⊢
  refine (works_any _).mono ?_
  rintro e w2 ⟨rfl, b2⟩
  have V_2 := Lib.hid (V_1.out.below b2)
  clear V_1
  have U_2 := Lib.hid (U_1.out.below b2)
  clear U_1
  have KT_2 := Lib.hid (KT_00.out.below b2 KT_00.out.lt)
  clear KT_00
  have B_2 := Lib.hid (B_1.out.trans (b2.mono B_1.out.size))
  clear B_1
  clear b2
  have lT_2 : w.heap.size < w2.heap.size := KT_2.out.lt
  have cT_0_2 : w2.cell? ⟨w.heap.size, 0, none⟩ = some (.slice va a.length vc) := KT_2.out.cell 0
  have cT_1_2 : w2.cell? ⟨w.heap.size, 1, none⟩ = some (.slice ua b.length uc) := KT_2.out.cell 1
  go_wp2_with fail
  clear lT_2 cT_0_2 cT_1_2
  refine (few_ex a b _ _ true _ V_2.out U_2.out H1.out).mono ?_
  rintro e w3 ⟨rfl, b3⟩
  have V_3 := Lib.hid (V_2.out.below b3)
  clear V_2
  have U_3 := Lib.hid (U_2.out.below b3)
  clear U_2
  have KT_3 := Lib.hid (KT_2.out.below b3 KT_2.out.lt)
  clear KT_2
  have B_3 := Lib.hid (B_2.out.trans (b3.mono B_2.out.size))
  clear B_2
  clear b3
  have lT_3 : w.heap.size < w3.heap.size := KT_3.out.lt
  have cT_0_3 : w3.cell? ⟨w.heap.size, 0, none⟩ = some (.slice va a.length vc) := KT_3.out.cell 0
  have cT_1_3 : w3.cell? ⟨w.heap.size, 1, none⟩ = some (.slice ua b.length uc) := KT_3.out.cell 1
  go_wp2_with fail
  clear lT_3 cT_0_3 cT_1_3
  refine (check_ex a b _ _ 0 _ V_3.out U_3.out ZA.out ZB.out H0.out).mono ?_
  rintro e w4 ⟨rfl, b4⟩
  have V_4 := Lib.hid (V_3.out.below b4)
  clear V_3
  have U_4 := Lib.hid (U_3.out.below b4)
  clear U_3
  have KT_4 := Lib.hid (KT_3.out.below b4 KT_3.out.lt)
  clear KT_3
  have B_4 := Lib.hid (B_3.out.trans (b4.mono B_3.out.size))
  clear B_3
  clear b4
  have lT_4 : w.heap.size < w4.heap.size := KT_4.out.lt
  have cT_0_4 : w4.cell? ⟨w.heap.size, 0, none⟩ = some (.slice va a.length vc) := KT_4.out.cell 0
  have cT_1_4 : w4.cell? ⟨w.heap.size, 1, none⟩ = some (.slice ua b.length uc) := KT_4.out.cell 1
  go_wp2_with fail
  clear lT_4 cT_0_4 cT_1_4
  refine (ahead_ex2 a b _ _ s ⟨#[]⟩ false _ V_4.out U_4.out ZA.out ZB.out HS.out HR.out).mono ?_
  rintro e w5 ⟨rfl, b5⟩
  have V_5 := Lib.hid (V_4.out.below b5)
  clear V_4
  have U_5 := Lib.hid (U_4.out.below b5)
  clear U_4
  have KT_5 := Lib.hid (KT_4.out.below b5 KT_4.out.lt)
  clear KT_4
  have B_5 := Lib.hid (B_4.out.trans (b5.mono B_4.out.size))
  clear B_4
  clear b5
  have lT_5 : w.heap.size < w5.heap.size := KT_5.out.lt
  have cT_0_5 : w5.cell? ⟨w.heap.size, 0, none⟩ = some (.slice va a.length vc) := KT_5.out.cell 0
  have cT_1_5 : w5.cell? ⟨w.heap.size, 1, none⟩ = some (.slice ua b.length uc) := KT_5.out.cell 1
  go_wp2_with fail
  clear lT_5 cT_0_5 cT_1_5
  refine (back_ex2 a b _ _ ⟨#[]⟩ ⟨#[]⟩ false _ V_5.out U_5.out ZA.out ZB.out HRZ.out HB.out).mono ?_
  rintro e w6 ⟨rfl, b6⟩
  have V_6 := Lib.hid (V_5.out.below b6)
  clear V_5
  have U_6 := Lib.hid (U_5.out.below b6)
  clear U_5
  have KT_6 := Lib.hid (KT_5.out.below b6 KT_5.out.lt)
  clear KT_5
  have B_6 := Lib.hid (B_5.out.trans (b6.mono B_5.out.size))
  clear B_5
  clear b6
  have lT_6 : w.heap.size < w6.heap.size := KT_6.out.lt
  have cT_0_6 : w6.cell? ⟨w.heap.size, 0, none⟩ = some (.slice va a.length vc) := KT_6.out.cell 0
  have cT_1_6 : w6.cell? ⟨w.heap.size, 1, none⟩ = some (.slice ua b.length uc) := KT_6.out.cell 1
  go_wp2_with fail
  clear lT_6 cT_0_6 cT_1_6
  refine (back_ex2 a b _ _ s ⟨#[]⟩ false _ V_6.out U_6.out ZA.out ZB.out HS.out HC.out).mono ?_
  rintro e w7 ⟨rfl, b7⟩
  have V_7 := Lib.hid (V_6.out.below b7)
  clear V_6
  have U_7 := Lib.hid (U_6.out.below b7)
  clear U_6
  have KT_7 := Lib.hid (KT_6.out.below b7 KT_6.out.lt)
  clear KT_6
  have B_7 := Lib.hid (B_6.out.trans (b7.mono B_6.out.size))
  clear B_6
  clear b7
  have lT_7 : w.heap.size < w7.heap.size := KT_7.out.lt
  have cT_0_7 : w7.cell? ⟨w.heap.size, 0, none⟩ = some (.slice va a.length vc) := KT_7.out.cell 0
  have cT_1_7 : w7.cell? ⟨w.heap.size, 1, none⟩ = some (.slice ua b.length uc) := KT_7.out.cell 1
  go_wp2_with fail
  clear lT_7 cT_0_7 cT_1_7
  refine (ahead_ex2 a b _ _ ⟨#[]⟩ ⟨#[]⟩ false _ V_7.out U_7.out ZA.out ZB.out HCZ.out HD.out).mono ?_
  rintro e w8 ⟨rfl, b8⟩
  have V_8 := Lib.hid (V_7.out.below b8)
  clear V_7
  have U_8 := Lib.hid (U_7.out.below b8)
  clear U_7
  have KT_8 := Lib.hid (KT_7.out.below b8 KT_7.out.lt)
  clear KT_7
  have B_8 := Lib.hid (B_7.out.trans (b8.mono B_7.out.size))
  clear B_7
  clear b8
  have lT_8 : w.heap.size < w8.heap.size := KT_8.out.lt
  have cT_0_8 : w8.cell? ⟨w.heap.size, 0, none⟩ = some (.slice va a.length vc) := KT_8.out.cell 0
  have cT_1_8 : w8.cell? ⟨w.heap.size, 1, none⟩ = some (.slice ua b.length uc) := KT_8.out.cell 1
  go_wp2_with fail
  clear lT_8 cT_0_8 cT_1_8
  refine (inv_ex a b _ _ 0 _ V_8.out U_8.out ZA.out ZB.out HN.out HN'.out H0'.out).mono ?_
  rintro e w9 ⟨V1, rfl, ht, b9⟩
  have V_9 := Lib.hid (V_8.out.below b9)
  clear V_8
  have U_9 := Lib.hid (U_8.out.below b9)
  clear U_8
  have KT_9 := Lib.hid (KT_8.out.below b9 KT_8.out.lt)
  clear KT_8
  have B_9 := Lib.hid (B_8.out.trans (b9.mono B_8.out.size))
  clear B_8
  clear b9
  rw [okL_yes rfl, okL_yes rfl] at ht
  obtain ⟨x1, x2, rfl, r1, r2⟩ := ht
  obtain ⟨xa, xc, rfl⟩ := row_slice r1
  obtain ⟨ya, yc, rfl⟩ := row_slice r2
  have X1 := Lib.hid r1
  clear r1
  have X2 := Lib.hid r2
  clear r2
  go_wp2_with fail
  have a2 : Below w9.heap.size w9 (w9.alloc (.cells #[.slice xa b.length xc, .slice ya a.length yc] 24)) := ((Below.refl w9.heap.size w9).alloc (by first | exact Nat.le_refl _ | (simp only [World.size_alloc]; omega)) (.cells #[.slice xa b.length xc, .slice ya a.length yc] 24))
  have X_new9 := (Blk.new w9 #[.slice xa b.length xc, .slice ya a.length yc] 24)
  have KX_09 := Lib.hid X_new9
  clear X_new9
  have V_10 := Lib.hid (V_9.out.below a2)
  clear V_9
  have U_10 := Lib.hid (U_9.out.below a2)
  clear U_9
  have X1_10 := Lib.hid (row_below X1.out a2)
  clear X1
  have X2_10 := Lib.hid (row_below X2.out a2)
  clear X2
  have KT_10 := Lib.hid (KT_9.out.below a2 KT_9.out.lt)
  clear KT_9
  have B_10 := Lib.hid (B_9.out.trans (a2.mono B_9.out.size))
  clear B_9
  clear a2
  generalize (w9.alloc (.cells #[.slice xa b.length xc, .slice ya a.length yc] 24)) = w10 at V_10 U_10 X1_10 X2_10 KT_10 KX_09 B_10 ⊢
  refine (ahead_ex2 b a _ _ s ⟨#[]⟩ false _ (Lst.of_row X1_10.out) (Lst.of_row X2_10.out) ZB.out ZA.out HS.out HC.out).mono ?_
  rintro e w11 ⟨rfl, b11⟩
  have V_11 := Lib.hid (V_10.out.below b11)
  clear V_10
  have U_11 := Lib.hid (U_10.out.below b11)
  clear U_10
  have X1_11 := Lib.hid (row_below X1_10.out b11)
  clear X1_10
  have X2_11 := Lib.hid (row_below X2_10.out b11)
  clear X2_10
  have KT_11 := Lib.hid (KT_10.out.below b11 KT_10.out.lt)
  clear KT_10
  have KX_11 := Lib.hid (KX_09.out.below b11 KX_09.out.lt)
  clear KX_09
  have B_11 := Lib.hid (B_10.out.trans (b11.mono B_10.out.size))
  clear B_10
  clear b11
  go_wp2_with fail
  have hss : (s.toList == s.toList) = true := beq_self_eq_true _
  have hcc : ((⟨#[]⟩ : ByteArray).toList == (⟨#[]⟩ : ByteArray).toList) = true := beq_self_eq_true _
  have HS12 : Hid (∀ X : World, Below w11.heap.size w11 X → X.cell? ⟨w.heap.size, 0, none⟩ = some (.slice va a.length vc) ∧ X.cell? ⟨w.heap.size, 1, none⟩ = some (.slice ua b.length uc) ∧ X.cell? ⟨w9.heap.size, 0, none⟩ = some (.slice xa b.length xc) ∧ X.cell? ⟨w9.heap.size, 1, none⟩ = some (.slice ya a.length yc) ∧ Below w11.heap.size w11 X) := Lib.hid fun X h => ⟨(h.cell (p := ⟨w.heap.size, 0, none⟩) KT_11.out.lt).trans (KT_11.out.cell 0), (h.cell (p := ⟨w.heap.size, 1, none⟩) KT_11.out.lt).trans (KT_11.out.cell 1), (h.cell (p := ⟨w9.heap.size, 0, none⟩) KX_11.out.lt).trans (KX_11.out.cell 0), (h.cell (p := ⟨w9.heap.size, 1, none⟩) KX_11.out.lt).trans (KX_11.out.cell 1), h⟩
  refine wp_region_held_drew (S := fun X => X.cell? ⟨w.heap.size, 0, none⟩ = some (.slice va a.length vc) ∧ X.cell? ⟨w.heap.size, 1, none⟩ = some (.slice ua b.length uc) ∧ X.cell? ⟨w9.heap.size, 0, none⟩ = some (.slice xa b.length xc) ∧ X.cell? ⟨w9.heap.size, 1, none⟩ = some (.slice ya a.length yc) ∧ Below w11.heap.size w11 X) (by kernel_rfl) (HS12.out _ (Below.refl _ _).drew) (fun hHeld => ?_)
  try (first | (refine take_yes (i := 0) (v := ?_) rfl (by kernel_rfl) (by decide +kernel) (by decide +kernel) (fun _ _ _ h => h) (by rfl) ?_ (by assumption) ?_; rotate_left; intro w hSw; (try dsimp only at hSw); go_simp; with_reducible rfl; simp only [Act.put, List.setIfInBounds_toArray, List.set_cons_zero, List.set_cons_succ]) | (refine take_no (i := 0) rfl (by kernel_rfl) (by decide +kernel) (by decide +kernel) (fun _ _ _ h => h) (by rfl) (by assumption) ?_; simp only [Act.put, List.setIfInBounds_toArray, List.set_cons_zero, List.set_cons_succ]))
  try (first | (refine take_yes (i := 1) (v := ?_) rfl (by kernel_rfl) (by decide +kernel) (by decide +kernel) (fun _ _ _ h => h) (by rfl) ?_ (by assumption) ?_; rotate_left; intro w hSw; (try dsimp only at hSw); go_simp; with_reducible rfl; simp only [Act.put, List.setIfInBounds_toArray, List.set_cons_zero, List.set_cons_succ]) | (refine take_no (i := 1) rfl (by kernel_rfl) (by decide +kernel) (by decide +kernel) (fun _ _ _ h => h) (by rfl) (by assumption) ?_; simp only [Act.put, List.setIfInBounds_toArray, List.set_cons_zero, List.set_cons_succ]))
  try (first | (refine take_yes (i := 2) (v := ?_) rfl (by kernel_rfl) (by decide +kernel) (by decide +kernel) (fun _ _ _ h => h) (by rfl) ?_ (by assumption) ?_; rotate_left; intro w hSw; (try dsimp only at hSw); go_simp; with_reducible rfl; simp only [Act.put, List.setIfInBounds_toArray, List.set_cons_zero, List.set_cons_succ]) | (refine take_no (i := 2) rfl (by kernel_rfl) (by decide +kernel) (by decide +kernel) (fun _ _ _ h => h) (by rfl) (by assumption) ?_; simp only [Act.put, List.setIfInBounds_toArray, List.set_cons_zero, List.set_cons_succ]))
  try (first | (refine take_yes (i := 3) (v := ?_) rfl (by kernel_rfl) (by decide +kernel) (by decide +kernel) (fun _ _ _ h => h) (by rfl) ?_ (by assumption) ?_; rotate_left; intro w hSw; (try dsimp only at hSw); go_simp; with_reducible rfl; simp only [Act.put, List.setIfInBounds_toArray, List.set_cons_zero, List.set_cons_succ]) | (refine take_no (i := 3) rfl (by kernel_rfl) (by decide +kernel) (by decide +kernel) (fun _ _ _ h => h) (by rfl) (by assumption) ?_; simp only [Act.put, List.setIfInBounds_toArray, List.set_cons_zero, List.set_cons_succ]))
  try (first | (refine take_yes (i := 4) (v := ?_) rfl (by kernel_rfl) (by decide +kernel) (by decide +kernel) (fun _ _ _ h => h) (by rfl) ?_ (by assumption) ?_; rotate_left; intro w hSw; (try dsimp only at hSw); go_simp; with_reducible rfl; simp only [Act.put, List.setIfInBounds_toArray, List.set_cons_zero, List.set_cons_succ]) | (refine take_no (i := 4) rfl (by kernel_rfl) (by decide +kernel) (by decide +kernel) (fun _ _ _ h => h) (by rfl) (by assumption) ?_; simp only [Act.put, List.setIfInBounds_toArray, List.set_cons_zero, List.set_cons_succ]))
  try (first | (refine take_yes (i := 5) (v := ?_) rfl (by kernel_rfl) (by decide +kernel) (by decide +kernel) (fun _ _ _ h => h) (by rfl) ?_ (by assumption) ?_; rotate_left; intro w hSw; (try dsimp only at hSw); go_simp; with_reducible rfl; simp only [Act.put, List.setIfInBounds_toArray, List.set_cons_zero, List.set_cons_succ]) | (refine take_no (i := 5) rfl (by kernel_rfl) (by decide +kernel) (by decide +kernel) (fun _ _ _ h => h) (by rfl) (by assumption) ?_; simp only [Act.put, List.setIfInBounds_toArray, List.set_cons_zero, List.set_cons_succ]))
  try (first | (refine take_yes (i := 6) (v := ?_) rfl (by kernel_rfl) (by decide +kernel) (by decide +kernel) (fun _ _ _ h => h) (by rfl) ?_ (by assumption) ?_; rotate_left; intro w hSw; (try dsimp only at hSw); go_simp; with_reducible rfl; simp only [Act.put, List.setIfInBounds_toArray, List.set_cons_zero, List.set_cons_succ]) | (refine take_no (i := 6) rfl (by kernel_rfl) (by decide +kernel) (by decide +kernel) (fun _ _ _ h => h) (by rfl) (by assumption) ?_; simp only [Act.put, List.setIfInBounds_toArray, List.set_cons_zero, List.set_cons_succ]))
  try (first | (refine take_yes (i := 7) (v := ?_) rfl (by kernel_rfl) (by decide +kernel) (by decide +kernel) (fun _ _ _ h => h) (by rfl) ?_ (by assumption) ?_; rotate_left; intro w hSw; (try dsimp only at hSw); go_simp; with_reducible rfl; simp only [Act.put, List.setIfInBounds_toArray, List.set_cons_zero, List.set_cons_succ]) | (refine take_no (i := 7) rfl (by kernel_rfl) (by decide +kernel) (by decide +kernel) (fun _ _ _ h => h) (by rfl) (by assumption) ?_; simp only [Act.put, List.setIfInBounds_toArray, List.set_cons_zero, List.set_cons_succ]))
  try (first | (refine take_yes (i := 8) (v := ?_) rfl (by kernel_rfl) (by decide +kernel) (by decide +kernel) (fun _ _ _ h => h) (by rfl) ?_ (by assumption) ?_; rotate_left; intro w hSw; (try dsimp only at hSw); go_simp; with_reducible rfl; simp only [Act.put, List.setIfInBounds_toArray, List.set_cons_zero, List.set_cons_succ]) | (refine take_no (i := 8) rfl (by kernel_rfl) (by decide +kernel) (by decide +kernel) (fun _ _ _ h => h) (by rfl) (by assumption) ?_; simp only [Act.put, List.setIfInBounds_toArray, List.set_cons_zero, List.set_cons_succ]))
  try (first | (refine take_yes (i := 9) (v := ?_) rfl (by kernel_rfl) (by decide +kernel) (by decide +kernel) (fun _ _ _ h => h) (by rfl) ?_ (by assumption) ?_; rotate_left; intro w hSw; (try dsimp only at hSw); go_simp; with_reducible rfl; simp only [Act.put, List.setIfInBounds_toArray, List.set_cons_zero, List.set_cons_succ]) | (refine take_no (i := 9) rfl (by kernel_rfl) (by decide +kernel) (by decide +kernel) (fun _ _ _ h => h) (by rfl) (by assumption) ?_; simp only [Act.put, List.setIfInBounds_toArray, List.set_cons_zero, List.set_cons_succ]))
  try (first | (refine take_yes (i := 10) (v := ?_) rfl (by kernel_rfl) (by decide +kernel) (by decide +kernel) (fun _ _ _ h => h) (by rfl) ?_ (by assumption) ?_; rotate_left; intro w hSw; (try dsimp only at hSw); go_simp; with_reducible rfl; simp only [Act.put, List.setIfInBounds_toArray, List.set_cons_zero, List.set_cons_succ]) | (refine take_no (i := 10) rfl (by kernel_rfl) (by decide +kernel) (by decide +kernel) (fun _ _ _ h => h) (by rfl) (by assumption) ?_; simp only [Act.put, List.setIfInBounds_toArray, List.set_cons_zero, List.set_cons_succ]))
  try (first | (refine take_yes (i := 11) (v := ?_) rfl (by kernel_rfl) (by decide +kernel) (by decide +kernel) (fun _ _ _ h => h) (by rfl) ?_ (by assumption) ?_; rotate_left; intro w hSw; (try dsimp only at hSw); go_simp; with_reducible rfl; simp only [Act.put, List.setIfInBounds_toArray, List.set_cons_zero, List.set_cons_succ]) | (refine take_no (i := 11) rfl (by kernel_rfl) (by decide +kernel) (by decide +kernel) (fun _ _ _ h => h) (by rfl) (by assumption) ?_; simp only [Act.put, List.setIfInBounds_toArray, List.set_cons_zero, List.set_cons_succ]))
  try (first | (refine take_yes (i := 12) (v := ?_) rfl (by kernel_rfl) (by decide +kernel) (by decide +kernel) (fun _ _ _ h => h) (by rfl) ?_ (by assumption) ?_; rotate_left; intro w hSw; (try dsimp only at hSw); go_simp; with_reducible rfl; simp only [Act.put, List.setIfInBounds_toArray, List.set_cons_zero, List.set_cons_succ]) | (refine take_no (i := 12) rfl (by kernel_rfl) (by decide +kernel) (by decide +kernel) (fun _ _ _ h => h) (by rfl) (by assumption) ?_; simp only [Act.put, List.setIfInBounds_toArray, List.set_cons_zero, List.set_cons_succ]))
  try (first | (refine take_yes (i := 13) (v := ?_) rfl (by kernel_rfl) (by decide +kernel) (by decide +kernel) (fun _ _ _ h => h) (by rfl) ?_ (by assumption) ?_; rotate_left; intro w hSw; (try dsimp only at hSw); go_simp; with_reducible rfl; simp only [Act.put, List.setIfInBounds_toArray, List.set_cons_zero, List.set_cons_succ]) | (refine take_no (i := 13) rfl (by kernel_rfl) (by decide +kernel) (by decide +kernel) (fun _ _ _ h => h) (by rfl) (by assumption) ?_; simp only [Act.put, List.setIfInBounds_toArray, List.set_cons_zero, List.set_cons_succ]))
  try (first | (refine take_yes (i := 14) (v := ?_) rfl (by kernel_rfl) (by decide +kernel) (by decide +kernel) (fun _ _ _ h => h) (by rfl) ?_ (by assumption) ?_; rotate_left; intro w hSw; (try dsimp only at hSw); go_simp; with_reducible rfl; simp only [Act.put, List.setIfInBounds_toArray, List.set_cons_zero, List.set_cons_succ]) | (refine take_no (i := 14) rfl (by kernel_rfl) (by decide +kernel) (by decide +kernel) (fun _ _ _ h => h) (by rfl) (by assumption) ?_; simp only [Act.put, List.setIfInBounds_toArray, List.set_cons_zero, List.set_cons_succ]))
  try (first | (refine take_yes (i := 15) (v := ?_) rfl (by kernel_rfl) (by decide +kernel) (by decide +kernel) (fun _ _ _ h => h) (by rfl) ?_ (by assumption) ?_; rotate_left; intro w hSw; (try dsimp only at hSw); go_simp; with_reducible rfl; simp only [Act.put, List.setIfInBounds_toArray, List.set_cons_zero, List.set_cons_succ]) | (refine take_no (i := 15) rfl (by kernel_rfl) (by decide +kernel) (by decide +kernel) (fun _ _ _ h => h) (by rfl) (by assumption) ?_; simp only [Act.put, List.setIfInBounds_toArray, List.set_cons_zero, List.set_cons_succ]))
  try (first | (refine take_yes (i := 16) (v := ?_) rfl (by kernel_rfl) (by decide +kernel) (by decide +kernel) (fun _ _ _ h => h) (by rfl) ?_ (by assumption) ?_; rotate_left; intro w hSw; (try dsimp only at hSw); go_simp; with_reducible rfl; simp only [Act.put, List.setIfInBounds_toArray, List.set_cons_zero, List.set_cons_succ]) | (refine take_no (i := 16) rfl (by kernel_rfl) (by decide +kernel) (by decide +kernel) (fun _ _ _ h => h) (by rfl) (by assumption) ?_; simp only [Act.put, List.setIfInBounds_toArray, List.set_cons_zero, List.set_cons_succ]))
  try (first | (refine take_yes (i := 17) (v := ?_) rfl (by kernel_rfl) (by decide +kernel) (by decide +kernel) (fun _ _ _ h => h) (by rfl) ?_ (by assumption) ?_; rotate_left; intro w hSw; (try dsimp only at hSw); go_simp; with_reducible rfl; simp only [Act.put, List.setIfInBounds_toArray, List.set_cons_zero, List.set_cons_succ]) | (refine take_no (i := 17) rfl (by kernel_rfl) (by decide +kernel) (by decide +kernel) (fun _ _ _ h => h) (by rfl) (by assumption) ?_; simp only [Act.put, List.setIfInBounds_toArray, List.set_cons_zero, List.set_cons_succ]))
  try (first | (refine take_yes (i := 18) (v := ?_) rfl (by kernel_rfl) (by decide +kernel) (by decide +kernel) (fun _ _ _ h => h) (by rfl) ?_ (by assumption) ?_; rotate_left; intro w hSw; (try dsimp only at hSw); go_simp; with_reducible rfl; simp only [Act.put, List.setIfInBounds_toArray, List.set_cons_zero, List.set_cons_succ]) | (refine take_no (i := 18) rfl (by kernel_rfl) (by decide +kernel) (by decide +kernel) (fun _ _ _ h => h) (by rfl) (by assumption) ?_; simp only [Act.put, List.setIfInBounds_toArray, List.set_cons_zero, List.set_cons_succ]))
  try (first | (refine take_yes (i := 19) (v := ?_) rfl (by kernel_rfl) (by decide +kernel) (by decide +kernel) (fun _ _ _ h => h) (by rfl) ?_ (by assumption) ?_; rotate_left; intro w hSw; (try dsimp only at hSw); go_simp; with_reducible rfl; simp only [Act.put, List.setIfInBounds_toArray, List.set_cons_zero, List.set_cons_succ]) | (refine take_no (i := 19) rfl (by kernel_rfl) (by decide +kernel) (by decide +kernel) (fun _ _ _ h => h) (by rfl) (by assumption) ?_; simp only [Act.put, List.setIfInBounds_toArray, List.set_cons_zero, List.set_cons_succ]))
  try (first | (refine take_yes (i := 20) (v := ?_) rfl (by kernel_rfl) (by decide +kernel) (by decide +kernel) (fun _ _ _ h => h) (by rfl) ?_ (by assumption) ?_; rotate_left; intro w hSw; (try dsimp only at hSw); go_simp; with_reducible rfl; simp only [Act.put, List.setIfInBounds_toArray, List.set_cons_zero, List.set_cons_succ]) | (refine take_no (i := 20) rfl (by kernel_rfl) (by decide +kernel) (by decide +kernel) (fun _ _ _ h => h) (by rfl) (by assumption) ?_; simp only [Act.put, List.setIfInBounds_toArray, List.set_cons_zero, List.set_cons_succ]))
  try (first | (refine take_yes (i := 21) (v := ?_) rfl (by kernel_rfl) (by decide +kernel) (by decide +kernel) (fun _ _ _ h => h) (by rfl) ?_ (by assumption) ?_; rotate_left; intro w hSw; (try dsimp only at hSw); go_simp; with_reducible rfl; simp only [Act.put, List.setIfInBounds_toArray, List.set_cons_zero, List.set_cons_succ]) | (refine take_no (i := 21) rfl (by kernel_rfl) (by decide +kernel) (by decide +kernel) (fun _ _ _ h => h) (by rfl) (by assumption) ?_; simp only [Act.put, List.setIfInBounds_toArray, List.set_cons_zero, List.set_cons_succ]))
  try (first | (refine take_yes (i := 22) (v := ?_) rfl (by kernel_rfl) (by decide +kernel) (by decide +kernel) (fun _ _ _ h => h) (by rfl) ?_ (by assumption) ?_; rotate_left; intro w hSw; (try dsimp only at hSw); go_simp; with_reducible rfl; simp only [Act.put, List.setIfInBounds_toArray, List.set_cons_zero, List.set_cons_succ]) | (refine take_no (i := 22) rfl (by kernel_rfl) (by decide +kernel) (by decide +kernel) (fun _ _ _ h => h) (by rfl) (by assumption) ?_; simp only [Act.put, List.setIfInBounds_toArray, List.set_cons_zero, List.set_cons_succ]))
  try (first | (refine take_yes (i := 23) (v := ?_) rfl (by kernel_rfl) (by decide +kernel) (by decide +kernel) (fun _ _ _ h => h) (by rfl) ?_ (by assumption) ?_; rotate_left; intro w hSw; (try dsimp only at hSw); go_simp; with_reducible rfl; simp only [Act.put, List.setIfInBounds_toArray, List.set_cons_zero, List.set_cons_succ]) | (refine take_no (i := 23) rfl (by kernel_rfl) (by decide +kernel) (by decide +kernel) (fun _ _ _ h => h) (by rfl) (by assumption) ?_; simp only [Act.put, List.setIfInBounds_toArray, List.set_cons_zero, List.set_cons_succ]))
  try (first | (refine take_yes (i := 24) (v := ?_) rfl (by kernel_rfl) (by decide +kernel) (by decide +kernel) (fun _ _ _ h => h) (by rfl) ?_ (by assumption) ?_; rotate_left; intro w hSw; (try dsimp only at hSw); go_simp; with_reducible rfl; simp only [Act.put, List.setIfInBounds_toArray, List.set_cons_zero, List.set_cons_succ]) | (refine take_no (i := 24) rfl (by kernel_rfl) (by decide +kernel) (by decide +kernel) (fun _ _ _ h => h) (by rfl) (by assumption) ?_; simp only [Act.put, List.setIfInBounds_toArray, List.set_cons_zero, List.set_cons_succ]))
  try (first | (refine take_yes (i := 25) (v := ?_) rfl (by kernel_rfl) (by decide +kernel) (by decide +kernel) (fun _ _ _ h => h) (by rfl) ?_ (by assumption) ?_; rotate_left; intro w hSw; (try dsimp only at hSw); go_simp; with_reducible rfl; simp only [Act.put, List.setIfInBounds_toArray, List.set_cons_zero, List.set_cons_succ]) | (refine take_no (i := 25) rfl (by kernel_rfl) (by decide +kernel) (by decide +kernel) (fun _ _ _ h => h) (by rfl) (by assumption) ?_; simp only [Act.put, List.setIfInBounds_toArray, List.set_cons_zero, List.set_cons_succ]))
  try (first | (refine take_yes (i := 26) (v := ?_) rfl (by kernel_rfl) (by decide +kernel) (by decide +kernel) (fun _ _ _ h => h) (by rfl) ?_ (by assumption) ?_; rotate_left; intro w hSw; (try dsimp only at hSw); go_simp; with_reducible rfl; simp only [Act.put, List.setIfInBounds_toArray, List.set_cons_zero, List.set_cons_succ]) | (refine take_no (i := 26) rfl (by kernel_rfl) (by decide +kernel) (by decide +kernel) (fun _ _ _ h => h) (by rfl) (by assumption) ?_; simp only [Act.put, List.setIfInBounds_toArray, List.set_cons_zero, List.set_cons_succ]))
  try (first | (refine take_yes (i := 27) (v := ?_) rfl (by kernel_rfl) (by decide +kernel) (by decide +kernel) (fun _ _ _ h => h) (by rfl) ?_ (by assumption) ?_; rotate_left; intro w hSw; (try dsimp only at hSw); go_simp; with_reducible rfl; simp only [Act.put, List.setIfInBounds_toArray, List.set_cons_zero, List.set_cons_succ]) | (refine take_no (i := 27) rfl (by kernel_rfl) (by decide +kernel) (by decide +kernel) (fun _ _ _ h => h) (by rfl) (by assumption) ?_; simp only [Act.put, List.setIfInBounds_toArray, List.set_cons_zero, List.set_cons_succ]))
  try (first | (refine take_yes (i := 28) (v := ?_) rfl (by kernel_rfl) (by decide +kernel) (by decide +kernel) (fun _ _ _ h => h) (by rfl) ?_ (by assumption) ?_; rotate_left; intro w hSw; (try dsimp only at hSw); go_simp; with_reducible rfl; simp only [Act.put, List.setIfInBounds_toArray, List.set_cons_zero, List.set_cons_succ]) | (refine take_no (i := 28) rfl (by kernel_rfl) (by decide +kernel) (by decide +kernel) (fun _ _ _ h => h) (by rfl) (by assumption) ?_; simp only [Act.put, List.setIfInBounds_toArray, List.set_cons_zero, List.set_cons_succ]))
  try (first | (refine take_yes (i := 29) (v := ?_) rfl (by kernel_rfl) (by decide +kernel) (by decide +kernel) (fun _ _ _ h => h) (by rfl) ?_ (by assumption) ?_; rotate_left; intro w hSw; (try dsimp only at hSw); go_simp; with_reducible rfl; simp only [Act.put, List.setIfInBounds_toArray, List.set_cons_zero, List.set_cons_succ]) | (refine take_no (i := 29) rfl (by kernel_rfl) (by decide +kernel) (by decide +kernel) (fun _ _ _ h => h) (by rfl) (by assumption) ?_; simp only [Act.put, List.setIfInBounds_toArray, List.set_cons_zero, List.set_cons_succ]))
  try (first | (refine take_yes (i := 30) (v := ?_) rfl (by kernel_rfl) (by decide +kernel) (by decide +kernel) (fun _ _ _ h => h) (by rfl) ?_ (by assumption) ?_; rotate_left; intro w hSw; (try dsimp only at hSw); go_simp; with_reducible rfl; simp only [Act.put, List.setIfInBounds_toArray, List.set_cons_zero, List.set_cons_succ]) | (refine take_no (i := 30) rfl (by kernel_rfl) (by decide +kernel) (by decide +kernel) (fun _ _ _ h => h) (by rfl) (by assumption) ?_; simp only [Act.put, List.setIfInBounds_toArray, List.set_cons_zero, List.set_cons_succ]))
  try (first | (refine take_yes (i := 31) (v := ?_) rfl (by kernel_rfl) (by decide +kernel) (by decide +kernel) (fun _ _ _ h => h) (by rfl) ?_ (by assumption) ?_; rotate_left; intro w hSw; (try dsimp only at hSw); go_simp; with_reducible rfl; simp only [Act.put, List.setIfInBounds_toArray, List.set_cons_zero, List.set_cons_succ]) | (refine take_no (i := 31) rfl (by kernel_rfl) (by decide +kernel) (by decide +kernel) (fun _ _ _ h => h) (by rfl) (by assumption) ?_; simp only [Act.put, List.setIfInBounds_toArray, List.set_cons_zero, List.set_cons_succ]))
  try (first | (refine take_yes (i := 32) (v := ?_) rfl (by kernel_rfl) (by decide +kernel) (by decide +kernel) (fun _ _ _ h => h) (by rfl) ?_ (by assumption) ?_; rotate_left; intro w hSw; (try dsimp only at hSw); go_simp; with_reducible rfl; simp only [Act.put, List.setIfInBounds_toArray, List.set_cons_zero, List.set_cons_succ]) | (refine take_no (i := 32) rfl (by kernel_rfl) (by decide +kernel) (by decide +kernel) (fun _ _ _ h => h) (by rfl) (by assumption) ?_; simp only [Act.put, List.setIfInBounds_toArray, List.set_cons_zero, List.set_cons_succ]))
  try (first | (refine take_yes (i := 33) (v := ?_) rfl (by kernel_rfl) (by decide +kernel) (by decide +kernel) (fun _ _ _ h => h) (by rfl) ?_ (by assumption) ?_; rotate_left; intro w hSw; (try dsimp only at hSw); go_simp; with_reducible rfl; simp only [Act.put, List.setIfInBounds_toArray, List.set_cons_zero, List.set_cons_succ]) | (refine take_no (i := 33) rfl (by kernel_rfl) (by decide +kernel) (by decide +kernel) (fun _ _ _ h => h) (by rfl) (by assumption) ?_; simp only [Act.put, List.setIfInBounds_toArray, List.set_cons_zero, List.set_cons_succ]))
  try (first | (refine take_yes (i := 34) (v := ?_) rfl (by kernel_rfl) (by decide +kernel) (by decide +kernel) (fun _ _ _ h => h) (by rfl) ?_ (by assumption) ?_; rotate_left; intro w hSw; (try dsimp only at hSw); go_simp; with_reducible rfl; simp only [Act.put, List.setIfInBounds_toArray, List.set_cons_zero, List.set_cons_succ]) | (refine take_no (i := 34) rfl (by kernel_rfl) (by decide +kernel) (by decide +kernel) (fun _ _ _ h => h) (by rfl) (by assumption) ?_; simp only [Act.put, List.setIfInBounds_toArray, List.set_cons_zero, List.set_cons_succ]))
  try (first | (refine take_yes (i := 35) (v := ?_) rfl (by kernel_rfl) (by decide +kernel) (by decide +kernel) (fun _ _ _ h => h) (by rfl) ?_ (by assumption) ?_; rotate_left; intro w hSw; (try dsimp only at hSw); go_simp; with_reducible rfl; simp only [Act.put, List.setIfInBounds_toArray, List.set_cons_zero, List.set_cons_succ]) | (refine take_no (i := 35) rfl (by kernel_rfl) (by decide +kernel) (by decide +kernel) (fun _ _ _ h => h) (by rfl) (by assumption) ?_; simp only [Act.put, List.setIfInBounds_toArray, List.set_cons_zero, List.set_cons_succ]))
  try (first | (refine take_yes (i := 36) (v := ?_) rfl (by kernel_rfl) (by decide +kernel) (by decide +kernel) (fun _ _ _ h => h) (by rfl) ?_ (by assumption) ?_; rotate_left; intro w hSw; (try dsimp only at hSw); go_simp; with_reducible rfl; simp only [Act.put, List.setIfInBounds_toArray, List.set_cons_zero, List.set_cons_succ]) | (refine take_no (i := 36) rfl (by kernel_rfl) (by decide +kernel) (by decide +kernel) (fun _ _ _ h => h) (by rfl) (by assumption) ?_; simp only [Act.put, List.setIfInBounds_toArray, List.set_cons_zero, List.set_cons_succ]))
  try (first | (refine take_yes (i := 38) (v := ?_) rfl (by kernel_rfl) (by decide +kernel) (by decide +kernel) (fun _ _ _ h => h) (by rfl) ?_ (by assumption) ?_; rotate_left; intro w hSw; (try dsimp only at hSw); go_simp; with_reducible rfl; simp only [Act.put, List.setIfInBounds_toArray, List.set_cons_zero, List.set_cons_succ]) | (refine take_no (i := 38) rfl (by kernel_rfl) (by decide +kernel) (by decide +kernel) (fun _ _ _ h => h) (by rfl) (by assumption) ?_; simp only [Act.put, List.setIfInBounds_toArray, List.set_cons_zero, List.set_cons_succ]))
  try (first | (refine take_yes (i := 40) (v := ?_) rfl (by kernel_rfl) (by decide +kernel) (by decide +kernel) (fun _ _ _ h => h) (by rfl) ?_ (by assumption) ?_; rotate_left; intro w hSw; (try dsimp only at hSw); go_simp; with_reducible rfl; simp only [Act.put, List.setIfInBounds_toArray, List.set_cons_zero, List.set_cons_succ]) | (refine take_no (i := 40) rfl (by kernel_rfl) (by decide +kernel) (by decide +kernel) (fun _ _ _ h => h) (by rfl) (by assumption) ?_; simp only [Act.put, List.setIfInBounds_toArray, List.set_cons_zero, List.set_cons_succ]))
  try (first | (refine take_yes (i := 41) (v := ?_) rfl (by kernel_rfl) (by decide +kernel) (by decide +kernel) (fun _ _ _ h => h) (by rfl) ?_ (by assumption) ?_; rotate_left; intro w hSw; (try dsimp only at hSw); go_simp; with_reducible rfl; simp only [Act.put, List.setIfInBounds_toArray, List.set_cons_zero, List.set_cons_succ]) | (refine take_no (i := 41) rfl (by kernel_rfl) (by decide +kernel) (by decide +kernel) (fun _ _ _ h => h) (by rfl) (by assumption) ?_; simp only [Act.put, List.setIfInBounds_toArray, List.set_cons_zero, List.set_cons_succ]))
  refine take_this (i := 37) (by decide +kernel) rfl (by rfl) (fun K hK => ?_)
  go_simp
  go_at_call 27; (with_reducible refine (inv_ex b a _ _ 0 _ (Lst.of_row (ec := stc) (l := b) (row_below X1_11.out (Below.refl _ _).drew)) (Lst.of_row (ec := stc) (l := a) (row_below X2_11.out (Below.refl _ _).drew)) ZB.out ZA.out (nilFine_row X1_11.out) (nilFine_row X2_11.out) H0.out).mono ?_); rintro e w12 ⟨V2, rfl, ht, hb⟩
  have rB12 : Below w11.heap.size w11 w12 := ((Below.refl w11.heap.size w11).drew).trans (hb.mono (Nat.le_refl _))
  rw [okL_yes rfl, okL_yes rfl] at ht
  obtain ⟨x1, x2, rfl, q1, q2⟩ := ht
  obtain ⟨za, zc, rfl⟩ := row_slice q1
  obtain ⟨wa, wc, rfl⟩ := row_slice q2
  clear hb
  try go_simp
  refine hK.out _ _ (HS12.out _ rB12) (fun hHeld => ?_)
  clear hK
  try simp only [Act.put, List.setIfInBounds_toArray, List.set_cons_zero, List.set_cons_succ]
  try (first | (refine take_yes (i := 38) (v := ?_) rfl (by kernel_rfl) (by decide +kernel) (by decide +kernel) (fun _ _ _ h => h) (by rfl) ?_ (by assumption) ?_; rotate_left; intro w hSw; (try dsimp only at hSw); go_simp; with_reducible rfl; simp only [Act.put, List.setIfInBounds_toArray, List.set_cons_zero, List.set_cons_succ]) | (refine take_no (i := 38) rfl (by kernel_rfl) (by decide +kernel) (by decide +kernel) (fun _ _ _ h => h) (by rfl) (by assumption) ?_; simp only [Act.put, List.setIfInBounds_toArray, List.set_cons_zero, List.set_cons_succ]))
  try (first | (refine take_yes (i := 40) (v := ?_) rfl (by kernel_rfl) (by decide +kernel) (by decide +kernel) (fun _ _ _ h => h) (by rfl) ?_ (by assumption) ?_; rotate_left; intro w hSw; (try dsimp only at hSw); go_simp; with_reducible rfl; simp only [Act.put, List.setIfInBounds_toArray, List.set_cons_zero, List.set_cons_succ]) | (refine take_no (i := 40) rfl (by kernel_rfl) (by decide +kernel) (by decide +kernel) (fun _ _ _ h => h) (by rfl) (by assumption) ?_; simp only [Act.put, List.setIfInBounds_toArray, List.set_cons_zero, List.set_cons_succ]))
  try (first | (refine take_yes (i := 41) (v := ?_) rfl (by kernel_rfl) (by decide +kernel) (by decide +kernel) (fun _ _ _ h => h) (by rfl) ?_ (by assumption) ?_; rotate_left; intro w hSw; (try dsimp only at hSw); go_simp; with_reducible rfl; simp only [Act.put, List.setIfInBounds_toArray, List.set_cons_zero, List.set_cons_succ]) | (refine take_no (i := 41) rfl (by kernel_rfl) (by decide +kernel) (by decide +kernel) (fun _ _ _ h => h) (by rfl) (by assumption) ?_; simp only [Act.put, List.setIfInBounds_toArray, List.set_cons_zero, List.set_cons_succ]))
  refine take_this (i := 39) (by decide +kernel) rfl (by rfl) (fun K hK => ?_)
  go_simp
  go_at_call 25; (with_reducible refine (same_ex a b a b _ _ _ _ true _ (by omega) (by omega) (by omega) (by omega) (Lst.of_row q1) (Lst.of_row q2) (V_11.out.below rB12) (U_11.out.below rB12) (both_self a b)).mono ?_); rintro e w12 ⟨rfl, hb⟩
  have rB12 : Below w11.heap.size w11 w12 := rB12.trans (hb.mono rB12.size)
  clear hb
  try go_simp
  refine hK.out _ _ (HS12.out _ rB12) (fun hHeld => ?_)
  clear hK
  try simp only [Act.put, List.setIfInBounds_toArray, List.set_cons_zero, List.set_cons_succ]
  try (first | (refine take_yes (i := 40) (v := ?_) rfl (by kernel_rfl) (by decide +kernel) (by decide +kernel) (fun _ _ _ h => h) (by rfl) ?_ (by assumption) ?_; rotate_left; intro w hSw; (try dsimp only at hSw); go_simp; with_reducible rfl; simp only [Act.put, List.setIfInBounds_toArray, List.set_cons_zero, List.set_cons_succ]) | (refine take_no (i := 40) rfl (by kernel_rfl) (by decide +kernel) (by decide +kernel) (fun _ _ _ h => h) (by rfl) (by assumption) ?_; simp only [Act.put, List.setIfInBounds_toArray, List.set_cons_zero, List.set_cons_succ]))
  try (first | (refine take_yes (i := 41) (v := ?_) rfl (by kernel_rfl) (by decide +kernel) (by decide +kernel) (fun _ _ _ h => h) (by rfl) ?_ (by assumption) ?_; rotate_left; intro w hSw; (try dsimp only at hSw); go_simp; with_reducible rfl; simp only [Act.put, List.setIfInBounds_toArray, List.set_cons_zero, List.set_cons_succ]) | (refine take_no (i := 41) rfl (by kernel_rfl) (by decide +kernel) (by decide +kernel) (fun _ _ _ h => h) (by rfl) (by assumption) ?_; simp only [Act.put, List.setIfInBounds_toArray, List.set_cons_zero, List.set_cons_succ]))
  refine wpAnyH_done (by decide +kernel) ?_ _
  have b12 := rB12
  clear HS12
  have V_12 := Lib.hid (V_11.out.below b12)
  clear V_11
  have U_12 := Lib.hid (U_11.out.below b12)
  clear U_11
  have X1_12 := Lib.hid (row_below X1_11.out b12)
  clear X1_11
  have X2_12 := Lib.hid (row_below X2_11.out b12)
  clear X2_11
  have KT_12 := Lib.hid (KT_11.out.below b12 KT_11.out.lt)
  clear KT_11
  have KX_12 := Lib.hid (KX_11.out.below b12 KX_11.out.lt)
  clear KX_11
  have B_12 := Lib.hid (B_11.out.trans (b12.mono B_11.out.size))
  clear B_11
  go_wp2
  go_ret
  exact ⟨rfl, B_12.out⟩

theorem law_back (a b : List ByteArray) (v u : Value) (s : ByteArray) (w : World) (hv : Lst stc w v a) (hu : Lst stc w u b) (hn : NilFine v) (hn' : NilFine u) (hs : s.size ≤ maxLen) :
    Calls Try.prog 5 #[.agg #[v, u], .string s] w fun e w' => e = .returned (.bool true) ∧ Below w.heap.size w w' := by
  by_cases h1 : (fewB a 210 && fewB b 210) = true
  · by_cases h0 : checkF a b = 0
    · obtain ⟨⟨r, k⟩, hr⟩ : ∃ p, aheadF a b s = p := ⟨_, rfl⟩
      obtain ⟨⟨c, so⟩, hc⟩ : ∃ p, aheadF b a s = p := ⟨_, rfl⟩
      cases k <;> cases so
      · exact back_ff a b v u s w hv hu hn hn' hs h1 h0 r c hr hc
      · exact back_ft a b v u s w hv hu hn hn' hs h1 h0 r c hr hc
      · exact back_tf a b v u s w hv hu hn hn' hs h1 h0 r c hr hc
      · exact back_tt a b v u s w hv hu hn hn' hs h1 h0 r c hr hc
    · exact back_no2 a b v u s w hv hu h1 h0
  · exact back_no1 a b v u s w hv hu (by simpa using h1)
end Go.Proofs.Ytadodccciejghaa
