/- TableJoins: two tables, one behind the other. -/
import Derived.Test.YtadodccciejghaaBackLaw
import Derived.Test.YtadodccciejghaaReg2
namespace Go.Proofs.Ytadodccciejghaa
open Go.RowKit
attribute [local go_sem] Oper.semAt_some
set_option maxRecDepth 100000
set_option maxHeartbeats 2000000

theorem row_other {W : World} {B : Nat} {e : TypeId} {z : Nat} {v : Value} {n : Nat} {xs : List Value} (h : W.ownsRow B e z v n xs) {p : Addr} (hp : ∀ g, v.ownBlock = some g → g ≠ p.block) (x : Value) : (W.setCell p x).ownsRow B e z v n xs := by
  refine ⟨h.1, ?_⟩
  rcases h.2 with h2 | ⟨g, cap, cur, h1, h2, h3, h4⟩
  · exact .inl h2
  · exact .inr ⟨g, cap, cur, h1, h2, (RowKit.Below.heap_setCell _ _ _ _ (hp g (by rw [h1]; rfl))).trans h3, h4⟩
theorem joinR_yes {a b c d : List ByteArray} (h : checkF a b = 0) (h' : checkF c d = 0) : joinR a b c d = joinL c d a b := if_pos ⟨h, h'⟩
theorem join_check {a b c d P Q : List ByteArray} (h : checkF a b = 0) (h' : checkF c d = 0) (hP : (joinR a b c d).map (·.1) = P) (hQ : (joinR a b c d).map (·.2) = Q) : checkF P Q = 0 := by
  rw [joinR_yes h h'] at hP hQ
  subst hP hQ
  exact (check_ok _ _).2 (((check_ok a b).1 h).join ((check_ok c d).1 h'))
theorem join_ahead {a b c d P Q : List ByteArray} (h : checkF a b = 0) (h' : checkF c d = 0) (hP : (joinR a b c d).map (·.1) = P) (hQ : (joinR a b c d).map (·.2) = Q) (s : ByteArray) : aheadF P Q s = resF ((goL a b s).bind fun y => goL c d y) := by
  rw [aheadF_yes (join_check h h' hP hQ)]
  rw [joinR_yes h h'] at hP hQ
  subst hP hQ
  rw [joinL_go c d a b s ((check_ok a b).1 h).2.2.2.2.1]
theorem join_no {a b c d P Q : List ByteArray} (h : checkF a b = 0) (h' : checkF c d = 0) (hP : (joinR a b c d).map (·.1) = P) (hQ : (joinR a b c d).map (·.2) = Q) {s r : ByteArray} (hr : aheadF a b s = (r, false)) : aheadF P Q s = (⟨#[]⟩, false) := by
  rw [join_ahead h h' hP hQ]
  rw [aheadF_yes h] at hr
  cases hg : goL a b s with
  | none => rfl
  | some y => rw [hg] at hr; cases hr
theorem join_go {a b c d P Q : List ByteArray} (h : checkF a b = 0) (h' : checkF c d = 0) (hP : (joinR a b c d).map (·.1) = P) (hQ : (joinR a b c d).map (·.2) = Q) {s r : ByteArray} (hr : aheadF a b s = (r, true)) : aheadF P Q s = aheadF c d r := by
  rw [join_ahead h h' hP hQ, aheadF_yes h']
  rw [aheadF_yes h] at hr
  cases hg : goL a b s with
  | none => rw [hg] at hr; cases hr
  | some y => rw [hg] at hr; cases hr; rfl
theorem join_sizes {a b c d P Q : List ByteArray} (hP : (joinR a b c d).map (·.1) = P) (hQ : (joinR a b c d).map (·.2) = Q) (hz : ∀ x ∈ a, x.size ≤ 60) (hz' : ∀ x ∈ d, x.size ≤ 60) : (∀ x ∈ P, x.size ≤ 60) ∧ ∀ x ∈ Q, x.size ≤ 60 := by
  subst hP hQ
  unfold joinR
  split
  · constructor
    · intro x hx
      obtain ⟨p, hp, rfl⟩ := List.mem_map.1 hx
      obtain ⟨_, h1, _, _⟩ := joinL_mem c d a b p hp
      exact hz _ h1
    · intro x hx
      obtain ⟨p, hp, rfl⟩ := List.mem_map.1 hx
      obtain ⟨y, _, _, h3⟩ := joinL_mem c d a b p hp
      exact hz' _ (goL_mem c d y p.2 h3).2
  · simp

theorem joins_no1 (a b a' b' : List ByteArray) (v u v' u' : Value) (s : ByteArray) (w : World) (hv : Lst stc w v a) (hu : Lst stc w u b) (hv' : Lst stc w v' a') (hu' : Lst stc w u' b') (h1 : (fewB a 210 && fewB b 210) = false) :
    Calls Try.prog 6 #[.agg #[v, u], .agg #[v', u'], .string s] w fun e w' => e = .returned (.bool true) ∧ Below w.heap.size w w' := by
  have H1 := Lib.hid h1
  clear h1
  have HV := Lib.hid hv
  have HU := Lib.hid hu
  have HV' := Lib.hid hv'
  have HU' := Lib.hid hu'
  obtain ⟨va, vc, rfl⟩ := hv.slice
  obtain ⟨ua, uc, rfl⟩ := hu.slice
  obtain ⟨va', vc', rfl⟩ := hv'.slice
  obtain ⟨ua', uc', rfl⟩ := hu'.slice
  clear hv hu hv' hu'
  go_enter Try.func6, Try.ntmps6
  go_wp2_with fail
  have a1 : Below w.heap.size w ((w.alloc (.cells #[.slice va a.length vc, .slice ua b.length uc] 24)).alloc (.cells #[.slice va' a'.length vc', .slice ua' b'.length uc'] 24)) := (((Below.refl w.heap.size w).alloc (by first | exact Nat.le_refl _ | (simp only [World.size_alloc]; omega)) (.cells #[.slice va a.length vc, .slice ua b.length uc] 24)).alloc (by first | exact Nat.le_refl _ | (simp only [World.size_alloc]; omega)) (.cells #[.slice va' a'.length vc', .slice ua' b'.length uc'] 24))
  have T_new0 := ((Blk.new w #[.slice va a.length vc, .slice ua b.length uc] 24).alloc (.cells #[.slice va' a'.length vc', .slice ua' b'.length uc'] 24))
  have KT_00 := Lib.hid T_new0
  clear T_new0
  have O_new0 := (Blk.new (w.alloc (.cells #[.slice va a.length vc, .slice ua b.length uc] 24)) #[.slice va' a'.length vc', .slice ua' b'.length uc'] 24)
  rw [World.size_alloc] at O_new0
  have KO_00 := Lib.hid O_new0
  clear O_new0
  have V_1 := Lib.hid (HV.out.below a1)
  clear HV
  have U_1 := Lib.hid (HU.out.below a1)
  clear HU
  have V'_1 := Lib.hid (HV'.out.below a1)
  clear HV'
  have U'_1 := Lib.hid (HU'.out.below a1)
  clear HU'
  have B_1 := Lib.hid a1
  clear a1
  generalize ((w.alloc (.cells #[.slice va a.length vc, .slice ua b.length uc] 24)).alloc (.cells #[.slice va' a'.length vc', .slice ua' b'.length uc'] 24)) = w1 at V_1 U_1 V'_1 U'_1 KT_00 KO_00 B_1 ⊢
  refine (works_any _).mono ?_
  rintro e w2 ⟨rfl, b2⟩
  have V_2 := Lib.hid (V_1.out.below b2)
  clear V_1
  have U_2 := Lib.hid (U_1.out.below b2)
  clear U_1
  have V'_2 := Lib.hid (V'_1.out.below b2)
  clear V'_1
  have U'_2 := Lib.hid (U'_1.out.below b2)
  clear U'_1
  have KT_2 := Lib.hid (KT_00.out.below b2 KT_00.out.lt)
  clear KT_00
  have KO_2 := Lib.hid (KO_00.out.below b2 KO_00.out.lt)
  clear KO_00
  have B_2 := Lib.hid (B_1.out.trans (b2.mono B_1.out.size))
  clear B_1
  clear b2
  have lT_2 : w.heap.size < w2.heap.size := KT_2.out.lt
  have cT_0_2 : w2.cell? ⟨w.heap.size, 0, none⟩ = some (.slice va a.length vc) := KT_2.out.cell 0
  have cT_1_2 : w2.cell? ⟨w.heap.size, 1, none⟩ = some (.slice ua b.length uc) := KT_2.out.cell 1
  have lO_2 : w.heap.size + 1 < w2.heap.size := KO_2.out.lt
  have cO_0_2 : w2.cell? ⟨w.heap.size + 1, 0, none⟩ = some (.slice va' a'.length vc') := KO_2.out.cell 0
  have cO_1_2 : w2.cell? ⟨w.heap.size + 1, 1, none⟩ = some (.slice ua' b'.length uc') := KO_2.out.cell 1
  go_wp2_with fail
  clear lT_2 cT_0_2 cT_1_2 lO_2 cO_0_2 cO_1_2
  refine (few_ex a b _ _ false _ V_2.out U_2.out H1.out).mono ?_
  rintro e w3 ⟨rfl, b3⟩
  have V_3 := Lib.hid (V_2.out.below b3)
  clear V_2
  have U_3 := Lib.hid (U_2.out.below b3)
  clear U_2
  have V'_3 := Lib.hid (V'_2.out.below b3)
  clear V'_2
  have U'_3 := Lib.hid (U'_2.out.below b3)
  clear U'_2
  have KT_3 := Lib.hid (KT_2.out.below b3 KT_2.out.lt)
  clear KT_2
  have KO_3 := Lib.hid (KO_2.out.below b3 KO_2.out.lt)
  clear KO_2
  have B_3 := Lib.hid (B_2.out.trans (b3.mono B_2.out.size))
  clear B_2
  clear b3
  go_wp2
  go_ret
  exact ⟨rfl, B_3.out⟩

theorem joins_no2 (a b a' b' : List ByteArray) (v u v' u' : Value) (s : ByteArray) (w : World) (hv : Lst stc w v a) (hu : Lst stc w u b) (hv' : Lst stc w v' a') (hu' : Lst stc w u' b') (h1 : (fewB a 210 && fewB b 210) = true) (h2 : (fewB a' 210 && fewB b' 210) = false) :
    Calls Try.prog 6 #[.agg #[v, u], .agg #[v', u'], .string s] w fun e w' => e = .returned (.bool true) ∧ Below w.heap.size w w' := by
  have H1 := Lib.hid h1
  have H2 := Lib.hid h2
  clear h1 h2
  have HV := Lib.hid hv
  have HU := Lib.hid hu
  have HV' := Lib.hid hv'
  have HU' := Lib.hid hu'
  obtain ⟨va, vc, rfl⟩ := hv.slice
  obtain ⟨ua, uc, rfl⟩ := hu.slice
  obtain ⟨va', vc', rfl⟩ := hv'.slice
  obtain ⟨ua', uc', rfl⟩ := hu'.slice
  clear hv hu hv' hu'
  go_enter Try.func6, Try.ntmps6
  go_wp2_with fail
  have a1 : Below w.heap.size w ((w.alloc (.cells #[.slice va a.length vc, .slice ua b.length uc] 24)).alloc (.cells #[.slice va' a'.length vc', .slice ua' b'.length uc'] 24)) := (((Below.refl w.heap.size w).alloc (by first | exact Nat.le_refl _ | (simp only [World.size_alloc]; omega)) (.cells #[.slice va a.length vc, .slice ua b.length uc] 24)).alloc (by first | exact Nat.le_refl _ | (simp only [World.size_alloc]; omega)) (.cells #[.slice va' a'.length vc', .slice ua' b'.length uc'] 24))
  have T_new0 := ((Blk.new w #[.slice va a.length vc, .slice ua b.length uc] 24).alloc (.cells #[.slice va' a'.length vc', .slice ua' b'.length uc'] 24))
  have KT_00 := Lib.hid T_new0
  clear T_new0
  have O_new0 := (Blk.new (w.alloc (.cells #[.slice va a.length vc, .slice ua b.length uc] 24)) #[.slice va' a'.length vc', .slice ua' b'.length uc'] 24)
  rw [World.size_alloc] at O_new0
  have KO_00 := Lib.hid O_new0
  clear O_new0
  have V_1 := Lib.hid (HV.out.below a1)
  clear HV
  have U_1 := Lib.hid (HU.out.below a1)
  clear HU
  have V'_1 := Lib.hid (HV'.out.below a1)
  clear HV'
  have U'_1 := Lib.hid (HU'.out.below a1)
  clear HU'
  have B_1 := Lib.hid a1
  clear a1
  generalize ((w.alloc (.cells #[.slice va a.length vc, .slice ua b.length uc] 24)).alloc (.cells #[.slice va' a'.length vc', .slice ua' b'.length uc'] 24)) = w1 at V_1 U_1 V'_1 U'_1 KT_00 KO_00 B_1 ⊢
  refine (works_any _).mono ?_
  rintro e w2 ⟨rfl, b2⟩
  have V_2 := Lib.hid (V_1.out.below b2)
  clear V_1
  have U_2 := Lib.hid (U_1.out.below b2)
  clear U_1
  have V'_2 := Lib.hid (V'_1.out.below b2)
  clear V'_1
  have U'_2 := Lib.hid (U'_1.out.below b2)
  clear U'_1
  have KT_2 := Lib.hid (KT_00.out.below b2 KT_00.out.lt)
  clear KT_00
  have KO_2 := Lib.hid (KO_00.out.below b2 KO_00.out.lt)
  clear KO_00
  have B_2 := Lib.hid (B_1.out.trans (b2.mono B_1.out.size))
  clear B_1
  clear b2
  have lT_2 : w.heap.size < w2.heap.size := KT_2.out.lt
  have cT_0_2 : w2.cell? ⟨w.heap.size, 0, none⟩ = some (.slice va a.length vc) := KT_2.out.cell 0
  have cT_1_2 : w2.cell? ⟨w.heap.size, 1, none⟩ = some (.slice ua b.length uc) := KT_2.out.cell 1
  have lO_2 : w.heap.size + 1 < w2.heap.size := KO_2.out.lt
  have cO_0_2 : w2.cell? ⟨w.heap.size + 1, 0, none⟩ = some (.slice va' a'.length vc') := KO_2.out.cell 0
  have cO_1_2 : w2.cell? ⟨w.heap.size + 1, 1, none⟩ = some (.slice ua' b'.length uc') := KO_2.out.cell 1
  go_wp2_with fail
  clear lT_2 cT_0_2 cT_1_2 lO_2 cO_0_2 cO_1_2
  refine (few_ex a b _ _ true _ V_2.out U_2.out H1.out).mono ?_
  rintro e w3 ⟨rfl, b3⟩
  have V_3 := Lib.hid (V_2.out.below b3)
  clear V_2
  have U_3 := Lib.hid (U_2.out.below b3)
  clear U_2
  have V'_3 := Lib.hid (V'_2.out.below b3)
  clear V'_2
  have U'_3 := Lib.hid (U'_2.out.below b3)
  clear U'_2
  have KT_3 := Lib.hid (KT_2.out.below b3 KT_2.out.lt)
  clear KT_2
  have KO_3 := Lib.hid (KO_2.out.below b3 KO_2.out.lt)
  clear KO_2
  have B_3 := Lib.hid (B_2.out.trans (b3.mono B_2.out.size))
  clear B_2
  clear b3
  have lT_3 : w.heap.size < w3.heap.size := KT_3.out.lt
  have cT_0_3 : w3.cell? ⟨w.heap.size, 0, none⟩ = some (.slice va a.length vc) := KT_3.out.cell 0
  have cT_1_3 : w3.cell? ⟨w.heap.size, 1, none⟩ = some (.slice ua b.length uc) := KT_3.out.cell 1
  have lO_3 : w.heap.size + 1 < w3.heap.size := KO_3.out.lt
  have cO_0_3 : w3.cell? ⟨w.heap.size + 1, 0, none⟩ = some (.slice va' a'.length vc') := KO_3.out.cell 0
  have cO_1_3 : w3.cell? ⟨w.heap.size + 1, 1, none⟩ = some (.slice ua' b'.length uc') := KO_3.out.cell 1
  go_wp2_with fail
  clear lT_3 cT_0_3 cT_1_3 lO_3 cO_0_3 cO_1_3
  refine (few_ex a' b' _ _ false _ V'_3.out U'_3.out H2.out).mono ?_
  rintro e w4 ⟨rfl, b4⟩
  have V_4 := Lib.hid (V_3.out.below b4)
  clear V_3
  have U_4 := Lib.hid (U_3.out.below b4)
  clear U_3
  have V'_4 := Lib.hid (V'_3.out.below b4)
  clear V'_3
  have U'_4 := Lib.hid (U'_3.out.below b4)
  clear U'_3
  have KT_4 := Lib.hid (KT_3.out.below b4 KT_3.out.lt)
  clear KT_3
  have KO_4 := Lib.hid (KO_3.out.below b4 KO_3.out.lt)
  clear KO_3
  have B_4 := Lib.hid (B_3.out.trans (b4.mono B_3.out.size))
  clear B_3
  clear b4
  go_wp2
  go_ret
  exact ⟨rfl, B_4.out⟩

theorem joins_no3 (a b a' b' : List ByteArray) (v u v' u' : Value) (s : ByteArray) (w : World) (hv : Lst stc w v a) (hu : Lst stc w u b) (hv' : Lst stc w v' a') (hu' : Lst stc w u' b') (h1 : (fewB a 210 && fewB b 210) = true) (h2 : (fewB a' 210 && fewB b' 210) = true) (h0 : ¬ checkF a b = 0) :
    Calls Try.prog 6 #[.agg #[v, u], .agg #[v', u'], .string s] w fun e w' => e = .returned (.bool true) ∧ Below w.heap.size w w' := by
  obtain ⟨f1, f2⟩ := Bool.and_eq_true_iff.1 h1
  obtain ⟨f3, f4⟩ := Bool.and_eq_true_iff.1 h2
  obtain ⟨la, za⟩ := few_of f1
  obtain ⟨lb, zb⟩ := few_of f2
  obtain ⟨la', za'⟩ := few_of f3
  obtain ⟨lb', zb'⟩ := few_of f4
  clear f1 f2 f3 f4
  
  obtain ⟨q, hq⟩ : ∃ q, checkF a b = q := ⟨_, rfl⟩
  have hne : (q != 0) = true := by rw [bne_iff_ne, ← hq]; exact h0
  clear h0 la lb la' lb'
  have H1 := Lib.hid h1
  have H2 := Lib.hid h2
  have ZA := Lib.hid za
  have ZB := Lib.hid zb
  have ZA' := Lib.hid za'
  have ZB' := Lib.hid zb'
  have HQ := Lib.hid hq
  clear h1 h2 za zb za' zb' hq
  have HV := Lib.hid hv
  have HU := Lib.hid hu
  have HV' := Lib.hid hv'
  have HU' := Lib.hid hu'
  obtain ⟨va, vc, rfl⟩ := hv.slice
  obtain ⟨ua, uc, rfl⟩ := hu.slice
  obtain ⟨va', vc', rfl⟩ := hv'.slice
  obtain ⟨ua', uc', rfl⟩ := hu'.slice
  clear hv hu hv' hu'
  go_enter Try.func6, Try.ntmps6
  go_wp2_with fail
  have a1 : Below w.heap.size w ((w.alloc (.cells #[.slice va a.length vc, .slice ua b.length uc] 24)).alloc (.cells #[.slice va' a'.length vc', .slice ua' b'.length uc'] 24)) := (((Below.refl w.heap.size w).alloc (by first | exact Nat.le_refl _ | (simp only [World.size_alloc]; omega)) (.cells #[.slice va a.length vc, .slice ua b.length uc] 24)).alloc (by first | exact Nat.le_refl _ | (simp only [World.size_alloc]; omega)) (.cells #[.slice va' a'.length vc', .slice ua' b'.length uc'] 24))
  have T_new0 := ((Blk.new w #[.slice va a.length vc, .slice ua b.length uc] 24).alloc (.cells #[.slice va' a'.length vc', .slice ua' b'.length uc'] 24))
  have KT_00 := Lib.hid T_new0
  clear T_new0
  have O_new0 := (Blk.new (w.alloc (.cells #[.slice va a.length vc, .slice ua b.length uc] 24)) #[.slice va' a'.length vc', .slice ua' b'.length uc'] 24)
  rw [World.size_alloc] at O_new0
  have KO_00 := Lib.hid O_new0
  clear O_new0
  have V_1 := Lib.hid (HV.out.below a1)
  clear HV
  have U_1 := Lib.hid (HU.out.below a1)
  clear HU
  have V'_1 := Lib.hid (HV'.out.below a1)
  clear HV'
  have U'_1 := Lib.hid (HU'.out.below a1)
  clear HU'
  have B_1 := Lib.hid a1
  clear a1
  generalize ((w.alloc (.cells #[.slice va a.length vc, .slice ua b.length uc] 24)).alloc (.cells #[.slice va' a'.length vc', .slice ua' b'.length uc'] 24)) = w1 at V_1 U_1 V'_1 U'_1 KT_00 KO_00 B_1 ⊢
  refine (works_any _).mono ?_
  rintro e w2 ⟨rfl, b2⟩
  have V_2 := Lib.hid (V_1.out.below b2)
  clear V_1
  have U_2 := Lib.hid (U_1.out.below b2)
  clear U_1
  have V'_2 := Lib.hid (V'_1.out.below b2)
  clear V'_1
  have U'_2 := Lib.hid (U'_1.out.below b2)
  clear U'_1
  have KT_2 := Lib.hid (KT_00.out.below b2 KT_00.out.lt)
  clear KT_00
  have KO_2 := Lib.hid (KO_00.out.below b2 KO_00.out.lt)
  clear KO_00
  have B_2 := Lib.hid (B_1.out.trans (b2.mono B_1.out.size))
  clear B_1
  clear b2
  have lT_2 : w.heap.size < w2.heap.size := KT_2.out.lt
  have cT_0_2 : w2.cell? ⟨w.heap.size, 0, none⟩ = some (.slice va a.length vc) := KT_2.out.cell 0
  have cT_1_2 : w2.cell? ⟨w.heap.size, 1, none⟩ = some (.slice ua b.length uc) := KT_2.out.cell 1
  have lO_2 : w.heap.size + 1 < w2.heap.size := KO_2.out.lt
  have cO_0_2 : w2.cell? ⟨w.heap.size + 1, 0, none⟩ = some (.slice va' a'.length vc') := KO_2.out.cell 0
  have cO_1_2 : w2.cell? ⟨w.heap.size + 1, 1, none⟩ = some (.slice ua' b'.length uc') := KO_2.out.cell 1
  go_wp2_with fail
  clear lT_2 cT_0_2 cT_1_2 lO_2 cO_0_2 cO_1_2
  refine (few_ex a b _ _ true _ V_2.out U_2.out H1.out).mono ?_
  rintro e w3 ⟨rfl, b3⟩
  have V_3 := Lib.hid (V_2.out.below b3)
  clear V_2
  have U_3 := Lib.hid (U_2.out.below b3)
  clear U_2
  have V'_3 := Lib.hid (V'_2.out.below b3)
  clear V'_2
  have U'_3 := Lib.hid (U'_2.out.below b3)
  clear U'_2
  have KT_3 := Lib.hid (KT_2.out.below b3 KT_2.out.lt)
  clear KT_2
  have KO_3 := Lib.hid (KO_2.out.below b3 KO_2.out.lt)
  clear KO_2
  have B_3 := Lib.hid (B_2.out.trans (b3.mono B_2.out.size))
  clear B_2
  clear b3
  have lT_3 : w.heap.size < w3.heap.size := KT_3.out.lt
  have cT_0_3 : w3.cell? ⟨w.heap.size, 0, none⟩ = some (.slice va a.length vc) := KT_3.out.cell 0
  have cT_1_3 : w3.cell? ⟨w.heap.size, 1, none⟩ = some (.slice ua b.length uc) := KT_3.out.cell 1
  have lO_3 : w.heap.size + 1 < w3.heap.size := KO_3.out.lt
  have cO_0_3 : w3.cell? ⟨w.heap.size + 1, 0, none⟩ = some (.slice va' a'.length vc') := KO_3.out.cell 0
  have cO_1_3 : w3.cell? ⟨w.heap.size + 1, 1, none⟩ = some (.slice ua' b'.length uc') := KO_3.out.cell 1
  go_wp2_with fail
  clear lT_3 cT_0_3 cT_1_3 lO_3 cO_0_3 cO_1_3
  refine (few_ex a' b' _ _ true _ V'_3.out U'_3.out H2.out).mono ?_
  rintro e w4 ⟨rfl, b4⟩
  have V_4 := Lib.hid (V_3.out.below b4)
  clear V_3
  have U_4 := Lib.hid (U_3.out.below b4)
  clear U_3
  have V'_4 := Lib.hid (V'_3.out.below b4)
  clear V'_3
  have U'_4 := Lib.hid (U'_3.out.below b4)
  clear U'_3
  have KT_4 := Lib.hid (KT_3.out.below b4 KT_3.out.lt)
  clear KT_3
  have KO_4 := Lib.hid (KO_3.out.below b4 KO_3.out.lt)
  clear KO_3
  have B_4 := Lib.hid (B_3.out.trans (b4.mono B_3.out.size))
  clear B_3
  clear b4
  have lT_4 : w.heap.size < w4.heap.size := KT_4.out.lt
  have cT_0_4 : w4.cell? ⟨w.heap.size, 0, none⟩ = some (.slice va a.length vc) := KT_4.out.cell 0
  have cT_1_4 : w4.cell? ⟨w.heap.size, 1, none⟩ = some (.slice ua b.length uc) := KT_4.out.cell 1
  have lO_4 : w.heap.size + 1 < w4.heap.size := KO_4.out.lt
  have cO_0_4 : w4.cell? ⟨w.heap.size + 1, 0, none⟩ = some (.slice va' a'.length vc') := KO_4.out.cell 0
  have cO_1_4 : w4.cell? ⟨w.heap.size + 1, 1, none⟩ = some (.slice ua' b'.length uc') := KO_4.out.cell 1
  go_wp2_with fail
  clear lT_4 cT_0_4 cT_1_4 lO_4 cO_0_4 cO_1_4
  refine (check_ex a b _ _ q _ V_4.out U_4.out ZA.out ZB.out HQ.out).mono ?_
  rintro e w5 ⟨rfl, b5⟩
  have V_5 := Lib.hid (V_4.out.below b5)
  clear V_4
  have U_5 := Lib.hid (U_4.out.below b5)
  clear U_4
  have V'_5 := Lib.hid (V'_4.out.below b5)
  clear V'_4
  have U'_5 := Lib.hid (U'_4.out.below b5)
  clear U'_4
  have KT_5 := Lib.hid (KT_4.out.below b5 KT_4.out.lt)
  clear KT_4
  have KO_5 := Lib.hid (KO_4.out.below b5 KO_4.out.lt)
  clear KO_4
  have B_5 := Lib.hid (B_4.out.trans (b5.mono B_4.out.size))
  clear B_4
  clear b5
  go_wp2
  go_ret
  exact ⟨rfl, B_5.out⟩

theorem joins_no4 (a b a' b' : List ByteArray) (v u v' u' : Value) (s : ByteArray) (w : World) (hv : Lst stc w v a) (hu : Lst stc w u b) (hv' : Lst stc w v' a') (hu' : Lst stc w u' b') (h1 : (fewB a 210 && fewB b 210) = true) (h2 : (fewB a' 210 && fewB b' 210) = true) (h0 : checkF a b = 0) (h0x : ¬ checkF a' b' = 0) :
    Calls Try.prog 6 #[.agg #[v, u], .agg #[v', u'], .string s] w fun e w' => e = .returned (.bool true) ∧ Below w.heap.size w w' := by
  obtain ⟨f1, f2⟩ := Bool.and_eq_true_iff.1 h1
  obtain ⟨f3, f4⟩ := Bool.and_eq_true_iff.1 h2
  obtain ⟨la, za⟩ := few_of f1
  obtain ⟨lb, zb⟩ := few_of f2
  obtain ⟨la', za'⟩ := few_of f3
  obtain ⟨lb', zb'⟩ := few_of f4
  clear f1 f2 f3 f4
  
  obtain ⟨q, hq⟩ : ∃ q, checkF a' b' = q := ⟨_, rfl⟩
  have hne : (q != 0) = true := by rw [bne_iff_ne, ← hq]; exact h0x
  clear h0x la lb la' lb'
  have H1 := Lib.hid h1
  have H2 := Lib.hid h2
  have ZA := Lib.hid za
  have ZB := Lib.hid zb
  have ZA' := Lib.hid za'
  have ZB' := Lib.hid zb'
  have HQ := Lib.hid hq
  have H0 := Lib.hid h0
  clear h1 h2 za zb za' zb' hq h0
  have HV := Lib.hid hv
  have HU := Lib.hid hu
  have HV' := Lib.hid hv'
  have HU' := Lib.hid hu'
  obtain ⟨va, vc, rfl⟩ := hv.slice
  obtain ⟨ua, uc, rfl⟩ := hu.slice
  obtain ⟨va', vc', rfl⟩ := hv'.slice
  obtain ⟨ua', uc', rfl⟩ := hu'.slice
  clear hv hu hv' hu'
  go_enter Try.func6, Try.ntmps6
  go_wp2_with fail
  have a1 : Below w.heap.size w ((w.alloc (.cells #[.slice va a.length vc, .slice ua b.length uc] 24)).alloc (.cells #[.slice va' a'.length vc', .slice ua' b'.length uc'] 24)) := (((Below.refl w.heap.size w).alloc (by first | exact Nat.le_refl _ | (simp only [World.size_alloc]; omega)) (.cells #[.slice va a.length vc, .slice ua b.length uc] 24)).alloc (by first | exact Nat.le_refl _ | (simp only [World.size_alloc]; omega)) (.cells #[.slice va' a'.length vc', .slice ua' b'.length uc'] 24))
  have T_new0 := ((Blk.new w #[.slice va a.length vc, .slice ua b.length uc] 24).alloc (.cells #[.slice va' a'.length vc', .slice ua' b'.length uc'] 24))
  have KT_00 := Lib.hid T_new0
  clear T_new0
  have O_new0 := (Blk.new (w.alloc (.cells #[.slice va a.length vc, .slice ua b.length uc] 24)) #[.slice va' a'.length vc', .slice ua' b'.length uc'] 24)
  rw [World.size_alloc] at O_new0
  have KO_00 := Lib.hid O_new0
  clear O_new0
  have V_1 := Lib.hid (HV.out.below a1)
  clear HV
  have U_1 := Lib.hid (HU.out.below a1)
  clear HU
  have V'_1 := Lib.hid (HV'.out.below a1)
  clear HV'
  have U'_1 := Lib.hid (HU'.out.below a1)
  clear HU'
  have B_1 := Lib.hid a1
  clear a1
  generalize ((w.alloc (.cells #[.slice va a.length vc, .slice ua b.length uc] 24)).alloc (.cells #[.slice va' a'.length vc', .slice ua' b'.length uc'] 24)) = w1 at V_1 U_1 V'_1 U'_1 KT_00 KO_00 B_1 ⊢
  refine (works_any _).mono ?_
  rintro e w2 ⟨rfl, b2⟩
  have V_2 := Lib.hid (V_1.out.below b2)
  clear V_1
  have U_2 := Lib.hid (U_1.out.below b2)
  clear U_1
  have V'_2 := Lib.hid (V'_1.out.below b2)
  clear V'_1
  have U'_2 := Lib.hid (U'_1.out.below b2)
  clear U'_1
  have KT_2 := Lib.hid (KT_00.out.below b2 KT_00.out.lt)
  clear KT_00
  have KO_2 := Lib.hid (KO_00.out.below b2 KO_00.out.lt)
  clear KO_00
  have B_2 := Lib.hid (B_1.out.trans (b2.mono B_1.out.size))
  clear B_1
  clear b2
  have lT_2 : w.heap.size < w2.heap.size := KT_2.out.lt
  have cT_0_2 : w2.cell? ⟨w.heap.size, 0, none⟩ = some (.slice va a.length vc) := KT_2.out.cell 0
  have cT_1_2 : w2.cell? ⟨w.heap.size, 1, none⟩ = some (.slice ua b.length uc) := KT_2.out.cell 1
  have lO_2 : w.heap.size + 1 < w2.heap.size := KO_2.out.lt
  have cO_0_2 : w2.cell? ⟨w.heap.size + 1, 0, none⟩ = some (.slice va' a'.length vc') := KO_2.out.cell 0
  have cO_1_2 : w2.cell? ⟨w.heap.size + 1, 1, none⟩ = some (.slice ua' b'.length uc') := KO_2.out.cell 1
  go_wp2_with fail
  clear lT_2 cT_0_2 cT_1_2 lO_2 cO_0_2 cO_1_2
  refine (few_ex a b _ _ true _ V_2.out U_2.out H1.out).mono ?_
  rintro e w3 ⟨rfl, b3⟩
  have V_3 := Lib.hid (V_2.out.below b3)
  clear V_2
  have U_3 := Lib.hid (U_2.out.below b3)
  clear U_2
  have V'_3 := Lib.hid (V'_2.out.below b3)
  clear V'_2
  have U'_3 := Lib.hid (U'_2.out.below b3)
  clear U'_2
  have KT_3 := Lib.hid (KT_2.out.below b3 KT_2.out.lt)
  clear KT_2
  have KO_3 := Lib.hid (KO_2.out.below b3 KO_2.out.lt)
  clear KO_2
  have B_3 := Lib.hid (B_2.out.trans (b3.mono B_2.out.size))
  clear B_2
  clear b3
  have lT_3 : w.heap.size < w3.heap.size := KT_3.out.lt
  have cT_0_3 : w3.cell? ⟨w.heap.size, 0, none⟩ = some (.slice va a.length vc) := KT_3.out.cell 0
  have cT_1_3 : w3.cell? ⟨w.heap.size, 1, none⟩ = some (.slice ua b.length uc) := KT_3.out.cell 1
  have lO_3 : w.heap.size + 1 < w3.heap.size := KO_3.out.lt
  have cO_0_3 : w3.cell? ⟨w.heap.size + 1, 0, none⟩ = some (.slice va' a'.length vc') := KO_3.out.cell 0
  have cO_1_3 : w3.cell? ⟨w.heap.size + 1, 1, none⟩ = some (.slice ua' b'.length uc') := KO_3.out.cell 1
  go_wp2_with fail
  clear lT_3 cT_0_3 cT_1_3 lO_3 cO_0_3 cO_1_3
  refine (few_ex a' b' _ _ true _ V'_3.out U'_3.out H2.out).mono ?_
  rintro e w4 ⟨rfl, b4⟩
  have V_4 := Lib.hid (V_3.out.below b4)
  clear V_3
  have U_4 := Lib.hid (U_3.out.below b4)
  clear U_3
  have V'_4 := Lib.hid (V'_3.out.below b4)
  clear V'_3
  have U'_4 := Lib.hid (U'_3.out.below b4)
  clear U'_3
  have KT_4 := Lib.hid (KT_3.out.below b4 KT_3.out.lt)
  clear KT_3
  have KO_4 := Lib.hid (KO_3.out.below b4 KO_3.out.lt)
  clear KO_3
  have B_4 := Lib.hid (B_3.out.trans (b4.mono B_3.out.size))
  clear B_3
  clear b4
  have lT_4 : w.heap.size < w4.heap.size := KT_4.out.lt
  have cT_0_4 : w4.cell? ⟨w.heap.size, 0, none⟩ = some (.slice va a.length vc) := KT_4.out.cell 0
  have cT_1_4 : w4.cell? ⟨w.heap.size, 1, none⟩ = some (.slice ua b.length uc) := KT_4.out.cell 1
  have lO_4 : w.heap.size + 1 < w4.heap.size := KO_4.out.lt
  have cO_0_4 : w4.cell? ⟨w.heap.size + 1, 0, none⟩ = some (.slice va' a'.length vc') := KO_4.out.cell 0
  have cO_1_4 : w4.cell? ⟨w.heap.size + 1, 1, none⟩ = some (.slice ua' b'.length uc') := KO_4.out.cell 1
  go_wp2_with fail
  clear lT_4 cT_0_4 cT_1_4 lO_4 cO_0_4 cO_1_4
  refine (check_ex a b _ _ 0 _ V_4.out U_4.out ZA.out ZB.out H0.out).mono ?_
  rintro e w5 ⟨rfl, b5⟩
  have V_5 := Lib.hid (V_4.out.below b5)
  clear V_4
  have U_5 := Lib.hid (U_4.out.below b5)
  clear U_4
  have V'_5 := Lib.hid (V'_4.out.below b5)
  clear V'_4
  have U'_5 := Lib.hid (U'_4.out.below b5)
  clear U'_4
  have KT_5 := Lib.hid (KT_4.out.below b5 KT_4.out.lt)
  clear KT_4
  have KO_5 := Lib.hid (KO_4.out.below b5 KO_4.out.lt)
  clear KO_4
  have B_5 := Lib.hid (B_4.out.trans (b5.mono B_4.out.size))
  clear B_4
  clear b5
  have lT_5 : w.heap.size < w5.heap.size := KT_5.out.lt
  have cT_0_5 : w5.cell? ⟨w.heap.size, 0, none⟩ = some (.slice va a.length vc) := KT_5.out.cell 0
  have cT_1_5 : w5.cell? ⟨w.heap.size, 1, none⟩ = some (.slice ua b.length uc) := KT_5.out.cell 1
  have lO_5 : w.heap.size + 1 < w5.heap.size := KO_5.out.lt
  have cO_0_5 : w5.cell? ⟨w.heap.size + 1, 0, none⟩ = some (.slice va' a'.length vc') := KO_5.out.cell 0
  have cO_1_5 : w5.cell? ⟨w.heap.size + 1, 1, none⟩ = some (.slice ua' b'.length uc') := KO_5.out.cell 1
  go_wp2_with fail
  clear lT_5 cT_0_5 cT_1_5 lO_5 cO_0_5 cO_1_5
  refine (check_ex a' b' _ _ q _ V'_5.out U'_5.out ZA'.out ZB'.out HQ.out).mono ?_
  rintro e w6 ⟨rfl, b6⟩
  have V_6 := Lib.hid (V_5.out.below b6)
  clear V_5
  have U_6 := Lib.hid (U_5.out.below b6)
  clear U_5
  have V'_6 := Lib.hid (V'_5.out.below b6)
  clear V'_5
  have U'_6 := Lib.hid (U'_5.out.below b6)
  clear U'_5
  have KT_6 := Lib.hid (KT_5.out.below b6 KT_5.out.lt)
  clear KT_5
  have KO_6 := Lib.hid (KO_5.out.below b6 KO_5.out.lt)
  clear KO_5
  have B_6 := Lib.hid (B_5.out.trans (b6.mono B_5.out.size))
  clear B_5
  clear b6
  go_wp2
  go_ret
  exact ⟨rfl, B_6.out⟩

theorem joins_tt (a b a' b' : List ByteArray) (v u v' u' : Value) (s : ByteArray) (w : World) (hv : Lst stc w v a) (hu : Lst stc w u b) (hv' : Lst stc w v' a') (hu' : Lst stc w u' b') (hn : NilFine v) (hn' : NilFine u) (hs : s.size ≤ maxLen) (h1 : (fewB a 210 && fewB b 210) = true) (h2 : (fewB a' 210 && fewB b' 210) = true) (h0 : checkF a b = 0) (h0x : checkF a' b' = 0) (r r2 : ByteArray) (hr : aheadF a b s = (r, true)) (hr2 : aheadF a' b' r = (r2, true)) :
    Calls Try.prog 6 #[.agg #[v, u], .agg #[v', u'], .string s] w fun e w' => e = .returned (.bool true) ∧ Below w.heap.size w w' := by
  obtain ⟨f1, f2⟩ := Bool.and_eq_true_iff.1 h1
  obtain ⟨f3, f4⟩ := Bool.and_eq_true_iff.1 h2
  obtain ⟨la, za⟩ := few_of f1
  obtain ⟨lb, zb⟩ := few_of f2
  obtain ⟨la', za'⟩ := few_of f3
  obtain ⟨lb', zb'⟩ := few_of f4
  clear f1 f2 f3 f4
  have hrz := aheadF_size hr zb
  have h0t := check_turn.1 h0
  obtain ⟨P, hP⟩ : ∃ p, (joinR a b a' b').map (·.1) = p := ⟨_, rfl⟩
  obtain ⟨Q, hQ⟩ : ∃ p, (joinR a b a' b').map (·.2) = p := ⟨_, rfl⟩
  obtain ⟨P2, hP2⟩ : ∃ p, (joinR a b b a).map (·.1) = p := ⟨_, rfl⟩
  obtain ⟨Q2, hQ2⟩ : ∃ p, (joinR a b b a).map (·.2) = p := ⟨_, rfl⟩
  obtain ⟨zP, zQ⟩ := join_sizes hP hQ za zb'
  obtain ⟨zP2, zQ2⟩ := join_sizes hP2 hQ2 za za
  have hj0 := join_check h0 h0x hP hQ
  have hj := (join_go h0 h0x hP hQ hr).trans hr2
  have hj2 := (join_go h0 h0t hP2 hQ2 hr).trans (aheadF_back hr)
  have H1 := Lib.hid h1
  have H2 := Lib.hid h2
  have ZA := Lib.hid za
  have ZB := Lib.hid zb
  have ZA' := Lib.hid za'
  have ZB' := Lib.hid zb'
  have H0 := Lib.hid h0
  have H0X := Lib.hid h0x
  have H0T := Lib.hid h0t
  have HR := Lib.hid hr
  have HR2 := Lib.hid hr2
  have HS := Lib.hid hs
  have HRZ := Lib.hid hrz
  have HN := Lib.hid hn
  have HN' := Lib.hid hn'
  have HP := Lib.hid hP
  have HQ := Lib.hid hQ
  have HP2 := Lib.hid hP2
  have HQ2 := Lib.hid hQ2
  have ZP := Lib.hid zP
  have ZQ := Lib.hid zQ
  have ZP2 := Lib.hid zP2
  have ZQ2 := Lib.hid zQ2
  have HJ0 := Lib.hid hj0
  have HJ := Lib.hid hj
  have HJ2 := Lib.hid hj2
  clear h1 h2 za zb za' zb' h0 h0x h0t hr hr2 hs hrz hn hn' hP hQ hP2 hQ2 zP zQ zP2 zQ2 hj0 hj hj2
  clear la lb la' lb'
  have HV := Lib.hid hv
  have HU := Lib.hid hu
  have HV' := Lib.hid hv'
  have HU' := Lib.hid hu'
  obtain ⟨va, vc, rfl⟩ := hv.slice
  obtain ⟨ua, uc, rfl⟩ := hu.slice
  obtain ⟨va', vc', rfl⟩ := hv'.slice
  obtain ⟨ua', uc', rfl⟩ := hu'.slice
  clear hv hu hv' hu'
  go_enter Try.func6, Try.ntmps6
  go_wp2_with fail
  have a1 : Below w.heap.size w ((w.alloc (.cells #[.slice va a.length vc, .slice ua b.length uc] 24)).alloc (.cells #[.slice va' a'.length vc', .slice ua' b'.length uc'] 24)) := (((Below.refl w.heap.size w).alloc (by first | exact Nat.le_refl _ | (simp only [World.size_alloc]; omega)) (.cells #[.slice va a.length vc, .slice ua b.length uc] 24)).alloc (by first | exact Nat.le_refl _ | (simp only [World.size_alloc]; omega)) (.cells #[.slice va' a'.length vc', .slice ua' b'.length uc'] 24))
  have T_new0 := ((Blk.new w #[.slice va a.length vc, .slice ua b.length uc] 24).alloc (.cells #[.slice va' a'.length vc', .slice ua' b'.length uc'] 24))
  have KT_00 := Lib.hid T_new0
  clear T_new0
  have O_new0 := (Blk.new (w.alloc (.cells #[.slice va a.length vc, .slice ua b.length uc] 24)) #[.slice va' a'.length vc', .slice ua' b'.length uc'] 24)
  rw [World.size_alloc] at O_new0
  have KO_00 := Lib.hid O_new0
  clear O_new0
  have V_1 := Lib.hid (HV.out.below a1)
  clear HV
  have U_1 := Lib.hid (HU.out.below a1)
  clear HU
  have V'_1 := Lib.hid (HV'.out.below a1)
  clear HV'
  have U'_1 := Lib.hid (HU'.out.below a1)
  clear HU'
  have B_1 := Lib.hid a1
  clear a1
  generalize ((w.alloc (.cells #[.slice va a.length vc, .slice ua b.length uc] 24)).alloc (.cells #[.slice va' a'.length vc', .slice ua' b'.length uc'] 24)) = w1 at V_1 U_1 V'_1 U'_1 KT_00 KO_00 B_1 ⊢
  refine (works_any _).mono ?_
  rintro e w2 ⟨rfl, b2⟩
  have V_2 := Lib.hid (V_1.out.below b2)
  clear V_1
  have U_2 := Lib.hid (U_1.out.below b2)
  clear U_1
  have V'_2 := Lib.hid (V'_1.out.below b2)
  clear V'_1
  have U'_2 := Lib.hid (U'_1.out.below b2)
  clear U'_1
  have KT_2 := Lib.hid (KT_00.out.below b2 KT_00.out.lt)
  clear KT_00
  have KO_2 := Lib.hid (KO_00.out.below b2 KO_00.out.lt)
  clear KO_00
  have B_2 := Lib.hid (B_1.out.trans (b2.mono B_1.out.size))
  clear B_1
  clear b2
  have lT_2 : w.heap.size < w2.heap.size := KT_2.out.lt
  have cT_0_2 : w2.cell? ⟨w.heap.size, 0, none⟩ = some (.slice va a.length vc) := KT_2.out.cell 0
  have cT_1_2 : w2.cell? ⟨w.heap.size, 1, none⟩ = some (.slice ua b.length uc) := KT_2.out.cell 1
  have lO_2 : w.heap.size + 1 < w2.heap.size := KO_2.out.lt
  have cO_0_2 : w2.cell? ⟨w.heap.size + 1, 0, none⟩ = some (.slice va' a'.length vc') := KO_2.out.cell 0
  have cO_1_2 : w2.cell? ⟨w.heap.size + 1, 1, none⟩ = some (.slice ua' b'.length uc') := KO_2.out.cell 1
  go_wp2_with fail
  clear lT_2 cT_0_2 cT_1_2 lO_2 cO_0_2 cO_1_2
  refine (few_ex a b _ _ true _ V_2.out U_2.out H1.out).mono ?_
  rintro e w3 ⟨rfl, b3⟩
  have V_3 := Lib.hid (V_2.out.below b3)
  clear V_2
  have U_3 := Lib.hid (U_2.out.below b3)
  clear U_2
  have V'_3 := Lib.hid (V'_2.out.below b3)
  clear V'_2
  have U'_3 := Lib.hid (U'_2.out.below b3)
  clear U'_2
  have KT_3 := Lib.hid (KT_2.out.below b3 KT_2.out.lt)
  clear KT_2
  have KO_3 := Lib.hid (KO_2.out.below b3 KO_2.out.lt)
  clear KO_2
  have B_3 := Lib.hid (B_2.out.trans (b3.mono B_2.out.size))
  clear B_2
  clear b3
  have lT_3 : w.heap.size < w3.heap.size := KT_3.out.lt
  have cT_0_3 : w3.cell? ⟨w.heap.size, 0, none⟩ = some (.slice va a.length vc) := KT_3.out.cell 0
  have cT_1_3 : w3.cell? ⟨w.heap.size, 1, none⟩ = some (.slice ua b.length uc) := KT_3.out.cell 1
  have lO_3 : w.heap.size + 1 < w3.heap.size := KO_3.out.lt
  have cO_0_3 : w3.cell? ⟨w.heap.size + 1, 0, none⟩ = some (.slice va' a'.length vc') := KO_3.out.cell 0
  have cO_1_3 : w3.cell? ⟨w.heap.size + 1, 1, none⟩ = some (.slice ua' b'.length uc') := KO_3.out.cell 1
  go_wp2_with fail
  clear lT_3 cT_0_3 cT_1_3 lO_3 cO_0_3 cO_1_3
  refine (few_ex a' b' _ _ true _ V'_3.out U'_3.out H2.out).mono ?_
  rintro e w4 ⟨rfl, b4⟩
  have V_4 := Lib.hid (V_3.out.below b4)
  clear V_3
  have U_4 := Lib.hid (U_3.out.below b4)
  clear U_3
  have V'_4 := Lib.hid (V'_3.out.below b4)
  clear V'_3
  have U'_4 := Lib.hid (U'_3.out.below b4)
  clear U'_3
  have KT_4 := Lib.hid (KT_3.out.below b4 KT_3.out.lt)
  clear KT_3
  have KO_4 := Lib.hid (KO_3.out.below b4 KO_3.out.lt)
  clear KO_3
  have B_4 := Lib.hid (B_3.out.trans (b4.mono B_3.out.size))
  clear B_3
  clear b4
  have lT_4 : w.heap.size < w4.heap.size := KT_4.out.lt
  have cT_0_4 : w4.cell? ⟨w.heap.size, 0, none⟩ = some (.slice va a.length vc) := KT_4.out.cell 0
  have cT_1_4 : w4.cell? ⟨w.heap.size, 1, none⟩ = some (.slice ua b.length uc) := KT_4.out.cell 1
  have lO_4 : w.heap.size + 1 < w4.heap.size := KO_4.out.lt
  have cO_0_4 : w4.cell? ⟨w.heap.size + 1, 0, none⟩ = some (.slice va' a'.length vc') := KO_4.out.cell 0
  have cO_1_4 : w4.cell? ⟨w.heap.size + 1, 1, none⟩ = some (.slice ua' b'.length uc') := KO_4.out.cell 1
  go_wp2_with fail
  clear lT_4 cT_0_4 cT_1_4 lO_4 cO_0_4 cO_1_4
  refine (check_ex a b _ _ 0 _ V_4.out U_4.out ZA.out ZB.out H0.out).mono ?_
  rintro e w5 ⟨rfl, b5⟩
  have V_5 := Lib.hid (V_4.out.below b5)
  clear V_4
  have U_5 := Lib.hid (U_4.out.below b5)
  clear U_4
  have V'_5 := Lib.hid (V'_4.out.below b5)
  clear V'_4
  have U'_5 := Lib.hid (U'_4.out.below b5)
  clear U'_4
  have KT_5 := Lib.hid (KT_4.out.below b5 KT_4.out.lt)
  clear KT_4
  have KO_5 := Lib.hid (KO_4.out.below b5 KO_4.out.lt)
  clear KO_4
  have B_5 := Lib.hid (B_4.out.trans (b5.mono B_4.out.size))
  clear B_4
  clear b5
  have lT_5 : w.heap.size < w5.heap.size := KT_5.out.lt
  have cT_0_5 : w5.cell? ⟨w.heap.size, 0, none⟩ = some (.slice va a.length vc) := KT_5.out.cell 0
  have cT_1_5 : w5.cell? ⟨w.heap.size, 1, none⟩ = some (.slice ua b.length uc) := KT_5.out.cell 1
  have lO_5 : w.heap.size + 1 < w5.heap.size := KO_5.out.lt
  have cO_0_5 : w5.cell? ⟨w.heap.size + 1, 0, none⟩ = some (.slice va' a'.length vc') := KO_5.out.cell 0
  have cO_1_5 : w5.cell? ⟨w.heap.size + 1, 1, none⟩ = some (.slice ua' b'.length uc') := KO_5.out.cell 1
  go_wp2_with fail
  clear lT_5 cT_0_5 cT_1_5 lO_5 cO_0_5 cO_1_5
  refine (check_ex a' b' _ _ 0 _ V'_5.out U'_5.out ZA'.out ZB'.out H0X.out).mono ?_
  rintro e w6 ⟨rfl, b6⟩
  have V_6 := Lib.hid (V_5.out.below b6)
  clear V_5
  have U_6 := Lib.hid (U_5.out.below b6)
  clear U_5
  have V'_6 := Lib.hid (V'_5.out.below b6)
  clear V'_5
  have U'_6 := Lib.hid (U'_5.out.below b6)
  clear U'_5
  have KT_6 := Lib.hid (KT_5.out.below b6 KT_5.out.lt)
  clear KT_5
  have KO_6 := Lib.hid (KO_5.out.below b6 KO_5.out.lt)
  clear KO_5
  have B_6 := Lib.hid (B_5.out.trans (b6.mono B_5.out.size))
  clear B_5
  clear b6
  have lT_6 : w.heap.size < w6.heap.size := KT_6.out.lt
  have cT_0_6 : w6.cell? ⟨w.heap.size, 0, none⟩ = some (.slice va a.length vc) := KT_6.out.cell 0
  have cT_1_6 : w6.cell? ⟨w.heap.size, 1, none⟩ = some (.slice ua b.length uc) := KT_6.out.cell 1
  have lO_6 : w.heap.size + 1 < w6.heap.size := KO_6.out.lt
  have cO_0_6 : w6.cell? ⟨w.heap.size + 1, 0, none⟩ = some (.slice va' a'.length vc') := KO_6.out.cell 0
  have cO_1_6 : w6.cell? ⟨w.heap.size + 1, 1, none⟩ = some (.slice ua' b'.length uc') := KO_6.out.cell 1
  go_wp2_with fail
  clear lT_6 cT_0_6 cT_1_6 lO_6 cO_0_6 cO_1_6
  refine (join_ex a b a' b' _ _ _ _ P Q _ V_6.out U_6.out V'_6.out U'_6.out ZA.out ZB.out ZA'.out ZB'.out HP.out HQ.out).mono ?_
  rintro e w7 ⟨V1, rfl, ht, b7⟩
  have V_7 := Lib.hid (V_6.out.below b7)
  clear V_6
  have U_7 := Lib.hid (U_6.out.below b7)
  clear U_6
  have V'_7 := Lib.hid (V'_6.out.below b7)
  clear V'_6
  have U'_7 := Lib.hid (U'_6.out.below b7)
  clear U'_6
  have KT_7 := Lib.hid (KT_6.out.below b7 KT_6.out.lt)
  clear KT_6
  have KO_7 := Lib.hid (KO_6.out.below b7 KO_6.out.lt)
  clear KO_6
  have B_7 := Lib.hid (B_6.out.trans (b7.mono B_6.out.size))
  clear B_6
  clear b7
  obtain ⟨x1, x2, rfl, r1, r2'⟩ := ht
  obtain ⟨xa, xc, rfl⟩ := row_slice r1
  obtain ⟨ya, yc, rfl⟩ := row_slice r2'
  have X1 := Lib.hid r1
  clear r1
  have X2 := Lib.hid r2'
  clear r2'
  have lT_7 : w.heap.size < w7.heap.size := KT_7.out.lt
  have cT_0_7 : w7.cell? ⟨w.heap.size, 0, none⟩ = some (.slice va a.length vc) := KT_7.out.cell 0
  have cT_1_7 : w7.cell? ⟨w.heap.size, 1, none⟩ = some (.slice ua b.length uc) := KT_7.out.cell 1
  have lO_7 : w.heap.size + 1 < w7.heap.size := KO_7.out.lt
  have cO_0_7 : w7.cell? ⟨w.heap.size + 1, 0, none⟩ = some (.slice va' a'.length vc') := KO_7.out.cell 0
  have cO_1_7 : w7.cell? ⟨w.heap.size + 1, 1, none⟩ = some (.slice ua' b'.length uc') := KO_7.out.cell 1
  go_wp2_with fail
  clear lT_7 cT_0_7 cT_1_7 lO_7 cO_0_7 cO_1_7
  have a2 : Below w7.heap.size w7 (w7.alloc (.cells #[.slice xa P.length xc, .slice ya Q.length yc] 24)) := ((Below.refl w7.heap.size w7).alloc (by first | exact Nat.le_refl _ | (simp only [World.size_alloc]; omega)) (.cells #[.slice xa P.length xc, .slice ya Q.length yc] 24))
  have J_new7 := (Blk.new w7 #[.slice xa P.length xc, .slice ya Q.length yc] 24)
  have KJ_07 := Lib.hid J_new7
  clear J_new7
  have V_8 := Lib.hid (V_7.out.below a2)
  clear V_7
  have U_8 := Lib.hid (U_7.out.below a2)
  clear U_7
  have V'_8 := Lib.hid (V'_7.out.below a2)
  clear V'_7
  have U'_8 := Lib.hid (U'_7.out.below a2)
  clear U'_7
  have X1_8 := Lib.hid (row_below X1.out a2)
  clear X1
  have X2_8 := Lib.hid (row_below X2.out a2)
  clear X2
  have KT_8 := Lib.hid (KT_7.out.below a2 KT_7.out.lt)
  clear KT_7
  have KO_8 := Lib.hid (KO_7.out.below a2 KO_7.out.lt)
  clear KO_7
  have B_8 := Lib.hid (B_7.out.trans (a2.mono B_7.out.size))
  clear B_7
  clear a2
  generalize (w7.alloc (.cells #[.slice xa P.length xc, .slice ya Q.length yc] 24)) = w8 at V_8 U_8 V'_8 U'_8 X1_8 X2_8 KT_8 KO_8 KJ_07 B_8 ⊢
  refine (ahead_ex2 a b _ _ s r true _ V_8.out U_8.out ZA.out ZB.out HS.out HR.out).mono ?_
  rintro e w9 ⟨rfl, b9⟩
  have V_9 := Lib.hid (V_8.out.below b9)
  clear V_8
  have U_9 := Lib.hid (U_8.out.below b9)
  clear U_8
  have V'_9 := Lib.hid (V'_8.out.below b9)
  clear V'_8
  have U'_9 := Lib.hid (U'_8.out.below b9)
  clear U'_8
  have X1_9 := Lib.hid (row_below X1_8.out b9)
  clear X1_8
  have X2_9 := Lib.hid (row_below X2_8.out b9)
  clear X2_8
  have KT_9 := Lib.hid (KT_8.out.below b9 KT_8.out.lt)
  clear KT_8
  have KO_9 := Lib.hid (KO_8.out.below b9 KO_8.out.lt)
  clear KO_8
  have KJ_9 := Lib.hid (KJ_07.out.below b9 KJ_07.out.lt)
  clear KJ_07
  have B_9 := Lib.hid (B_8.out.trans (b9.mono B_8.out.size))
  clear B_8
  clear b9
  have lT_9 : w.heap.size < w9.heap.size := KT_9.out.lt
  have cT_0_9 : w9.cell? ⟨w.heap.size, 0, none⟩ = some (.slice va a.length vc) := KT_9.out.cell 0
  have cT_1_9 : w9.cell? ⟨w.heap.size, 1, none⟩ = some (.slice ua b.length uc) := KT_9.out.cell 1
  have lO_9 : w.heap.size + 1 < w9.heap.size := KO_9.out.lt
  have cO_0_9 : w9.cell? ⟨w.heap.size + 1, 0, none⟩ = some (.slice va' a'.length vc') := KO_9.out.cell 0
  have cO_1_9 : w9.cell? ⟨w.heap.size + 1, 1, none⟩ = some (.slice ua' b'.length uc') := KO_9.out.cell 1
  go_wp2_with fail
  clear lT_9 cT_0_9 cT_1_9 lO_9 cO_0_9 cO_1_9
  refine (ahead_ex2 a' b' _ _ r r2 true _ V'_9.out U'_9.out ZA'.out ZB'.out HRZ.out HR2.out).mono ?_
  rintro e w10 ⟨rfl, b10⟩
  have V_10 := Lib.hid (V_9.out.below b10)
  clear V_9
  have U_10 := Lib.hid (U_9.out.below b10)
  clear U_9
  have V'_10 := Lib.hid (V'_9.out.below b10)
  clear V'_9
  have U'_10 := Lib.hid (U'_9.out.below b10)
  clear U'_9
  have X1_10 := Lib.hid (row_below X1_9.out b10)
  clear X1_9
  have X2_10 := Lib.hid (row_below X2_9.out b10)
  clear X2_9
  have KT_10 := Lib.hid (KT_9.out.below b10 KT_9.out.lt)
  clear KT_9
  have KO_10 := Lib.hid (KO_9.out.below b10 KO_9.out.lt)
  clear KO_9
  have KJ_10 := Lib.hid (KJ_9.out.below b10 KJ_9.out.lt)
  clear KJ_9
  have B_10 := Lib.hid (B_9.out.trans (b10.mono B_9.out.size))
  clear B_9
  clear b10
  have lJ_10 : w7.heap.size < w10.heap.size := KJ_10.out.lt
  have cJ_0_10 : w10.cell? ⟨w7.heap.size, 0, none⟩ = some (.slice xa P.length xc) := KJ_10.out.cell 0
  have cJ_1_10 : w10.cell? ⟨w7.heap.size, 1, none⟩ = some (.slice ya Q.length yc) := KJ_10.out.cell 1
  go_wp2_with fail
  clear lJ_10 cJ_0_10 cJ_1_10
  refine (ahead_ex2 P Q _ _ s r2 true _ (Lst.of_row X1_10.out) (Lst.of_row X2_10.out) ZP.out ZQ.out HS.out HJ.out).mono ?_
  rintro e w11 ⟨rfl, b11⟩
  have V_11 := Lib.hid (V_10.out.below b11)
  clear V_10
  have U_11 := Lib.hid (U_10.out.below b11)
  clear U_10
  have V'_11 := Lib.hid (V'_10.out.below b11)
  clear V'_10
  have U'_11 := Lib.hid (U'_10.out.below b11)
  clear U'_10
  have X1_11 := Lib.hid (row_below X1_10.out b11)
  clear X1_10
  have X2_11 := Lib.hid (row_below X2_10.out b11)
  clear X2_10
  have KT_11 := Lib.hid (KT_10.out.below b11 KT_10.out.lt)
  clear KT_10
  have KO_11 := Lib.hid (KO_10.out.below b11 KO_10.out.lt)
  clear KO_10
  have KJ_11 := Lib.hid (KJ_10.out.below b11 KJ_10.out.lt)
  clear KJ_10
  have B_11 := Lib.hid (B_10.out.trans (b11.mono B_10.out.size))
  clear B_10
  clear b11
  go_wp2_with fail
  have V_o12 := V_11
  have U_o12 := U_11
  have V'_o12 := V'_11
  have U'_o12 := U'_11
  have X1_o12 := X1_11
  have X2_o12 := X2_11
  have KT_o12 := KT_11
  have KO_o12 := KO_11
  have KJ_o12 := KJ_11
  have B_o12 := B_11
  have HS12 : Hid (∀ X : World, Below w11.heap.size w11 X → X.cell? ⟨w.heap.size, 0, none⟩ = some (.slice va a.length vc) ∧ X.cell? ⟨w.heap.size, 1, none⟩ = some (.slice ua b.length uc) ∧ Below w11.heap.size w11 X) := Lib.hid fun X h => ⟨(h.cell (p := ⟨w.heap.size, 0, none⟩) KT_11.out.lt).trans (KT_11.out.cell 0), (h.cell (p := ⟨w.heap.size, 1, none⟩) KT_11.out.lt).trans (KT_11.out.cell 1), h⟩
  refine wp_region_held_drew (S := fun X => X.cell? ⟨w.heap.size, 0, none⟩ = some (.slice va a.length vc) ∧ X.cell? ⟨w.heap.size, 1, none⟩ = some (.slice ua b.length uc) ∧ Below w11.heap.size w11 X) (by kernel_rfl) (HS12.out _ (Below.refl _ _).drew) (fun hHeld => ?_)
  have bd : Below w11.heap.size w11 w11.drew := (Below.refl _ _).drew
  have RB0 := Lib.hid bd
  have V_12 := Lib.hid (V_11.out.below bd)
  clear V_11
  have U_12 := Lib.hid (U_11.out.below bd)
  clear U_11
  have V'_12 := Lib.hid (V'_11.out.below bd)
  clear V'_11
  have U'_12 := Lib.hid (U'_11.out.below bd)
  clear U'_11
  have X1_12 := Lib.hid (row_below X1_11.out bd)
  clear X1_11
  have X2_12 := Lib.hid (row_below X2_11.out bd)
  clear X2_11
  have KT_12 := Lib.hid (KT_11.out.below bd KT_11.out.lt)
  clear KT_11
  have KO_12 := Lib.hid (KO_11.out.below bd KO_11.out.lt)
  clear KO_11
  have KJ_12 := Lib.hid (KJ_11.out.below bd KJ_11.out.lt)
  clear KJ_11
  have B_12 := Lib.hid (B_11.out.trans (bd.mono B_11.out.size))
  clear B_11
  clear bd
  generalize w11.drew = w12 at V_12 U_12 V'_12 U'_12 X1_12 X2_12 RB0 KT_12 KO_12 KJ_12 B_12 hHeld ⊢
  try (first | (refine take_yes (i := 0) (v := ?_) rfl (by kernel_rfl) (by decide +kernel) (by decide +kernel) (fun _ _ _ h => h) (by rfl) ?_ (by assumption) ?_; rotate_left; intro w hSw; (try dsimp only at hSw); go_simp; with_reducible rfl; simp only [Act.put, List.setIfInBounds_toArray, List.set_cons_zero, List.set_cons_succ]) | (refine take_no (i := 0) rfl (by kernel_rfl) (by decide +kernel) (by decide +kernel) (fun _ _ _ h => h) (by rfl) (by assumption) ?_; simp only [Act.put, List.setIfInBounds_toArray, List.set_cons_zero, List.set_cons_succ]))
  try (first | (refine take_yes (i := 1) (v := ?_) rfl (by kernel_rfl) (by decide +kernel) (by decide +kernel) (fun _ _ _ h => h) (by rfl) ?_ (by assumption) ?_; rotate_left; intro w hSw; (try dsimp only at hSw); go_simp; with_reducible rfl; simp only [Act.put, List.setIfInBounds_toArray, List.set_cons_zero, List.set_cons_succ]) | (refine take_no (i := 1) rfl (by kernel_rfl) (by decide +kernel) (by decide +kernel) (fun _ _ _ h => h) (by rfl) (by assumption) ?_; simp only [Act.put, List.setIfInBounds_toArray, List.set_cons_zero, List.set_cons_succ]))
  refine take_two (i := 2) (j := 4) (by decide +kernel) rfl rfl (by rfl) (by rfl) (fun K hK => ?_) (fun K hK => ?_)
  · go_simp
    go_at_call 27
    refine (inv_ex a b _ _ 0 _ V_12.out U_12.out ZA.out ZB.out HN.out HN'.out H0T.out).mono ?_
    rintro e w13 ⟨V2, rfl, ht, b13⟩
    have V_13 := Lib.hid (V_12.out.below b13)
    clear V_12
    have U_13 := Lib.hid (U_12.out.below b13)
    clear U_12
    have V'_13 := Lib.hid (V'_12.out.below b13)
    clear V'_12
    have U'_13 := Lib.hid (U'_12.out.below b13)
    clear U'_12
    have X1_13 := Lib.hid (row_below X1_12.out b13)
    clear X1_12
    have X2_13 := Lib.hid (row_below X2_12.out b13)
    clear X2_12
    have RB_13 := Lib.hid (RB0.out.trans (b13.mono RB0.out.size))
    clear RB0
    have KT_13 := Lib.hid (KT_12.out.below b13 KT_12.out.lt)
    clear KT_12
    have KO_13 := Lib.hid (KO_12.out.below b13 KO_12.out.lt)
    clear KO_12
    have KJ_13 := Lib.hid (KJ_12.out.below b13 KJ_12.out.lt)
    clear KJ_12
    have B_13 := Lib.hid (B_12.out.trans (b13.mono B_12.out.size))
    clear B_12
    clear b13
    rw [okL_yes rfl, okL_yes rfl] at ht
    obtain ⟨x1, x2, rfl, q1, q2⟩ := ht
    obtain ⟨za, zc, rfl⟩ := row_slice q1
    obtain ⟨wa, wc, rfl⟩ := row_slice q2
    have Z1 := Lib.hid q1
    clear q1
    have Z2 := Lib.hid q2
    clear q2
    try go_simp
    refine hK.out _ _ (HS12.out _ RB_13.out) (fun hHeld => ?_)
    clear hK
    try simp only [Act.put, List.setIfInBounds_toArray, List.set_cons_zero, List.set_cons_succ]
    try (first | (refine take_yes (i := 0) (v := ?_) rfl (by kernel_rfl) (by decide +kernel) (by decide +kernel) (fun _ _ _ h => h) (by rfl) ?_ (by assumption) ?_; rotate_left; intro w hSw; (try dsimp only at hSw); go_simp; with_reducible rfl; simp only [Act.put, List.setIfInBounds_toArray, List.set_cons_zero, List.set_cons_succ]) | (refine take_no (i := 0) rfl (by kernel_rfl) (by decide +kernel) (by decide +kernel) (fun _ _ _ h => h) (by rfl) (by assumption) ?_; simp only [Act.put, List.setIfInBounds_toArray, List.set_cons_zero, List.set_cons_succ]))
    try (first | (refine take_yes (i := 1) (v := ?_) rfl (by kernel_rfl) (by decide +kernel) (by decide +kernel) (fun _ _ _ h => h) (by rfl) ?_ (by assumption) ?_; rotate_left; intro w hSw; (try dsimp only at hSw); go_simp; with_reducible rfl; simp only [Act.put, List.setIfInBounds_toArray, List.set_cons_zero, List.set_cons_succ]) | (refine take_no (i := 1) rfl (by kernel_rfl) (by decide +kernel) (by decide +kernel) (fun _ _ _ h => h) (by rfl) (by assumption) ?_; simp only [Act.put, List.setIfInBounds_toArray, List.set_cons_zero, List.set_cons_succ]))
    refine take_two (i := 3) (j := 4) (by decide +kernel) rfl rfl (by rfl) (by rfl) (fun K hK => ?_) (fun K hK => ?_)
    · go_simp
      go_at_call 28
      refine (join_ex a b b a _ _ _ _ P2 Q2 _ V_13.out U_13.out (Lst.of_row Z1.out) (Lst.of_row Z2.out) ZA.out ZB.out ZB.out ZA.out HP2.out HQ2.out).mono ?_
      rintro e w14 ⟨V3, rfl, ht, b14⟩
      have V_14 := Lib.hid (V_13.out.below b14)
      clear V_13
      have U_14 := Lib.hid (U_13.out.below b14)
      clear U_13
      have V'_14 := Lib.hid (V'_13.out.below b14)
      clear V'_13
      have U'_14 := Lib.hid (U'_13.out.below b14)
      clear U'_13
      have X1_14 := Lib.hid (row_below X1_13.out b14)
      clear X1_13
      have X2_14 := Lib.hid (row_below X2_13.out b14)
      clear X2_13
      have RB_14 := Lib.hid (RB_13.out.trans (b14.mono RB_13.out.size))
      clear RB_13
      have Z1_14 := Lib.hid (row_below Z1.out b14)
      clear Z1
      have Z2_14 := Lib.hid (row_below Z2.out b14)
      clear Z2
      have KT_14 := Lib.hid (KT_13.out.below b14 KT_13.out.lt)
      clear KT_13
      have KO_14 := Lib.hid (KO_13.out.below b14 KO_13.out.lt)
      clear KO_13
      have KJ_14 := Lib.hid (KJ_13.out.below b14 KJ_13.out.lt)
      clear KJ_13
      have B_14 := Lib.hid (B_13.out.trans (b14.mono B_13.out.size))
      clear B_13
      clear b14
      obtain ⟨x1, x2, rfl, q3, q4⟩ := ht
      obtain ⟨ya2, yc2, rfl⟩ := row_slice q3
      obtain ⟨yb2, yd2, rfl⟩ := row_slice q4
      have Y1 := Lib.hid q3
      clear q3
      have Y2 := Lib.hid q4
      clear q4
      try go_simp
      refine hK.out _ _ (HS12.out _ RB_14.out) (fun hHeld => ?_)
      clear hK
      try simp only [Act.put, List.setIfInBounds_toArray, List.set_cons_zero, List.set_cons_succ]
      try (first | (refine take_yes (i := 0) (v := ?_) rfl (by kernel_rfl) (by decide +kernel) (by decide +kernel) (fun _ _ _ h => h) (by rfl) ?_ (by assumption) ?_; rotate_left; intro w hSw; (try dsimp only at hSw); go_simp; with_reducible rfl; simp only [Act.put, List.setIfInBounds_toArray, List.set_cons_zero, List.set_cons_succ]) | (refine take_no (i := 0) rfl (by kernel_rfl) (by decide +kernel) (by decide +kernel) (fun _ _ _ h => h) (by rfl) (by assumption) ?_; simp only [Act.put, List.setIfInBounds_toArray, List.set_cons_zero, List.set_cons_succ]))
      try (first | (refine take_yes (i := 1) (v := ?_) rfl (by kernel_rfl) (by decide +kernel) (by decide +kernel) (fun _ _ _ h => h) (by rfl) ?_ (by assumption) ?_; rotate_left; intro w hSw; (try dsimp only at hSw); go_simp; with_reducible rfl; simp only [Act.put, List.setIfInBounds_toArray, List.set_cons_zero, List.set_cons_succ]) | (refine take_no (i := 1) rfl (by kernel_rfl) (by decide +kernel) (by decide +kernel) (fun _ _ _ h => h) (by rfl) (by assumption) ?_; simp only [Act.put, List.setIfInBounds_toArray, List.set_cons_zero, List.set_cons_succ]))
      refine take_this (i := 4) (by decide +kernel) rfl (by rfl) (fun K hK => ?_)
      go_simp
      have gB := RB_14.out.size
      have neZ1 := Lib.hid (fun g (e : (.slice za b.length zc : Value).ownBlock = some g) => show g ≠ w14.heap.size from by have := (Z1_14.out.lt g e).2; omega)
      have neZ2 := Lib.hid (fun g (e : (.slice wa a.length wc : Value).ownBlock = some g) => show g ≠ w14.heap.size from by have := (Z2_14.out.lt g e).2; omega)
      have neY1 := Lib.hid (fun g (e : (.slice ya2 P2.length yc2 : Value).ownBlock = some g) => show g ≠ w14.heap.size from by have := (Y1.out.lt g e).2; omega)
      have neY2 := Lib.hid (fun g (e : (.slice yb2 Q2.length yd2 : Value).ownBlock = some g) => show g ≠ w14.heap.size from by have := (Y2.out.lt g e).2; omega)
      have a3 : Below w14.heap.size w14 (w14.alloc (.cells #[.slice none 0 0, .slice none 0 0] 24)) := ((Below.refl w14.heap.size w14).alloc (by first | exact Nat.le_refl _ | (simp only [World.size_alloc]; omega)) (.cells #[.slice none 0 0, .slice none 0 0] 24))
      have M_new14 := (Blk.new w14 #[.slice none 0 0, .slice none 0 0] 24)
      have KM_014 := Lib.hid M_new14
      clear M_new14
      have V_15 := Lib.hid (V_14.out.below a3)
      clear V_14
      have U_15 := Lib.hid (U_14.out.below a3)
      clear U_14
      have V'_15 := Lib.hid (V'_14.out.below a3)
      clear V'_14
      have U'_15 := Lib.hid (U'_14.out.below a3)
      clear U'_14
      have X1_15 := Lib.hid (row_below X1_14.out a3)
      clear X1_14
      have X2_15 := Lib.hid (row_below X2_14.out a3)
      clear X2_14
      have RB_15 := Lib.hid (RB_14.out.trans (a3.mono RB_14.out.size))
      clear RB_14
      have Z1_15 := Lib.hid (row_below Z1_14.out a3)
      clear Z1_14
      have Z2_15 := Lib.hid (row_below Z2_14.out a3)
      clear Z2_14
      have Y1_15 := Lib.hid (row_below Y1.out a3)
      clear Y1
      have Y2_15 := Lib.hid (row_below Y2.out a3)
      clear Y2
      have KT_15 := Lib.hid (KT_14.out.below a3 KT_14.out.lt)
      clear KT_14
      have KO_15 := Lib.hid (KO_14.out.below a3 KO_14.out.lt)
      clear KO_14
      have KJ_15 := Lib.hid (KJ_14.out.below a3 KJ_14.out.lt)
      clear KJ_14
      have B_15 := Lib.hid (B_14.out.trans (a3.mono B_14.out.size))
      clear B_14
      clear a3
      generalize (w14.alloc (.cells #[.slice none 0 0, .slice none 0 0] 24)) = w15 at V_15 U_15 V'_15 U'_15 X1_15 X2_15 RB_15 Z1_15 Z2_15 Y1_15 Y2_15 KT_15 KO_15 KJ_15 KM_014 B_15 ⊢
      try go_simp
      refine hK.out _ _ (HS12.out _ RB_15.out) (fun hHeld => ?_)
      clear hK
      try simp only [Act.put, List.setIfInBounds_toArray, List.set_cons_zero, List.set_cons_succ]
      try (first | (refine take_yes (i := 0) (v := ?_) rfl (by kernel_rfl) (by decide +kernel) (by decide +kernel) (fun _ _ _ h => h) (by rfl) ?_ (by assumption) ?_; rotate_left; intro w hSw; (try dsimp only at hSw); go_simp; with_reducible rfl; simp only [Act.put, List.setIfInBounds_toArray, List.set_cons_zero, List.set_cons_succ]) | (refine take_no (i := 0) rfl (by kernel_rfl) (by decide +kernel) (by decide +kernel) (fun _ _ _ h => h) (by rfl) (by assumption) ?_; simp only [Act.put, List.setIfInBounds_toArray, List.set_cons_zero, List.set_cons_succ]))
      try (first | (refine take_yes (i := 1) (v := ?_) rfl (by kernel_rfl) (by decide +kernel) (by decide +kernel) (fun _ _ _ h => h) (by rfl) ?_ (by assumption) ?_; rotate_left; intro w hSw; (try dsimp only at hSw); go_simp; with_reducible rfl; simp only [Act.put, List.setIfInBounds_toArray, List.set_cons_zero, List.set_cons_succ]) | (refine take_no (i := 1) rfl (by kernel_rfl) (by decide +kernel) (by decide +kernel) (fun _ _ _ h => h) (by rfl) (by assumption) ?_; simp only [Act.put, List.setIfInBounds_toArray, List.set_cons_zero, List.set_cons_succ]))
      refine take_this (i := 5) (by decide +kernel) rfl (by rfl) (fun K hK => ?_)
      have f0 := KM_014.out.frozen 0
      have e0 : w15.cell? ⟨w14.heap.size, 0, none⟩ = some (.slice none 0 0) := KM_014.out.cell 0
      have f1 := KM_014.out.frozen 1
      have e1 : w15.cell? ⟨w14.heap.size, 1, none⟩ = some (.slice none 0 0) := KM_014.out.cell 1
      go_simp
      clear f0 e0 f1 e1
      have RB_16 := Lib.hid ((RB_15.out.setCell (p := ⟨w14.heap.size, 0, none⟩) (by show w11.heap.size ≤ w14.heap.size; omega) (.slice ya2 P2.length yc2)).setCell (p := ⟨w14.heap.size, 1, none⟩) (by show w11.heap.size ≤ w14.heap.size; omega) (.slice yb2 Q2.length yd2))
      have KM_16 := Lib.hid ((KM_014.out.set 0 (.slice ya2 P2.length yc2)).set 1 (.slice yb2 Q2.length yd2))
      have V_16 := Lib.hid (V_o12.out.below RB_16.out)
      have U_16 := Lib.hid (U_o12.out.below RB_16.out)
      have V'_16 := Lib.hid (V'_o12.out.below RB_16.out)
      have U'_16 := Lib.hid (U'_o12.out.below RB_16.out)
      have X1_16 := Lib.hid (row_below X1_o12.out RB_16.out)
      have X2_16 := Lib.hid (row_below X2_o12.out RB_16.out)
      have Z1_16 := Lib.hid (row_other (row_other Z1_15.out (p := ⟨w14.heap.size, 0, none⟩) neZ1.out (.slice ya2 P2.length yc2)) (p := ⟨w14.heap.size, 1, none⟩) neZ1.out (.slice yb2 Q2.length yd2))
      have Z2_16 := Lib.hid (row_other (row_other Z2_15.out (p := ⟨w14.heap.size, 0, none⟩) neZ2.out (.slice ya2 P2.length yc2)) (p := ⟨w14.heap.size, 1, none⟩) neZ2.out (.slice yb2 Q2.length yd2))
      have Y1_16 := Lib.hid (row_other (row_other Y1_15.out (p := ⟨w14.heap.size, 0, none⟩) neY1.out (.slice ya2 P2.length yc2)) (p := ⟨w14.heap.size, 1, none⟩) neY1.out (.slice yb2 Q2.length yd2))
      have Y2_16 := Lib.hid (row_other (row_other Y2_15.out (p := ⟨w14.heap.size, 0, none⟩) neY2.out (.slice ya2 P2.length yc2)) (p := ⟨w14.heap.size, 1, none⟩) neY2.out (.slice yb2 Q2.length yd2))
      have KT_16 := Lib.hid (KT_o12.out.below RB_16.out KT_o12.out.lt)
      have KO_16 := Lib.hid (KO_o12.out.below RB_16.out KO_o12.out.lt)
      have KJ_16 := Lib.hid (KJ_o12.out.below RB_16.out KJ_o12.out.lt)
      have B_16 := Lib.hid (B_o12.out.trans (RB_16.out.mono B_o12.out.size))
      clear V_15 U_15 V'_15 U'_15 X1_15 X2_15 RB_15 Z1_15 Z2_15 Y1_15 Y2_15 KT_15 KO_15 KJ_15 KM_014 B_15
      clear V_o12 U_o12 V'_o12 U'_o12 X1_o12 X2_o12 KT_o12 KO_o12 KJ_o12 B_o12 neZ1 neZ2 neY1 neY2 gB
      generalize ((w15.setCell ⟨w14.heap.size, 0, none⟩ (.slice ya2 P2.length yc2)).setCell ⟨w14.heap.size, 1, none⟩ (.slice yb2 Q2.length yd2)) = w16 at RB_16 V_16 U_16 V'_16 U'_16 X1_16 X2_16 Z1_16 Z2_16 Y1_16 Y2_16 KM_16 KT_16 KO_16 KJ_16 B_16 ⊢
      try go_simp
      refine hK.out _ _ (HS12.out _ RB_16.out) (fun hHeld => ?_)
      clear hK
      try simp only [Act.put, List.setIfInBounds_toArray, List.set_cons_zero, List.set_cons_succ]
      refine wpAnyH_done (by decide +kernel) ?_ _
      clear hHeld HS12 RB_16
      have lM_16 : w14.heap.size < w16.heap.size := KM_16.out.lt
      have cM_0_16 : w16.cell? ⟨w14.heap.size, 0, none⟩ = some (.slice ya2 P2.length yc2) := KM_16.out.cell 0
      have cM_1_16 : w16.cell? ⟨w14.heap.size, 1, none⟩ = some (.slice yb2 Q2.length yd2) := KM_16.out.cell 1
      go_wp2_with fail
      clear lM_16 cM_0_16 cM_1_16
      refine (ahead_ex2 P2 Q2 _ _ s s true _ (Lst.of_row Y1_16.out) (Lst.of_row Y2_16.out) ZP2.out ZQ2.out HS.out HJ2.out).mono ?_
      rintro e w17 ⟨rfl, b17⟩
      have V_17 := Lib.hid (V_16.out.below b17)
      clear V_16
      have U_17 := Lib.hid (U_16.out.below b17)
      clear U_16
      have V'_17 := Lib.hid (V'_16.out.below b17)
      clear V'_16
      have U'_17 := Lib.hid (U'_16.out.below b17)
      clear U'_16
      have X1_17 := Lib.hid (row_below X1_16.out b17)
      clear X1_16
      have X2_17 := Lib.hid (row_below X2_16.out b17)
      clear X2_16
      have Z1_17 := Lib.hid (row_below Z1_16.out b17)
      clear Z1_16
      have Z2_17 := Lib.hid (row_below Z2_16.out b17)
      clear Z2_16
      have Y1_17 := Lib.hid (row_below Y1_16.out b17)
      clear Y1_16
      have Y2_17 := Lib.hid (row_below Y2_16.out b17)
      clear Y2_16
      have KM_17 := Lib.hid (KM_16.out.below b17 KM_16.out.lt)
      clear KM_16
      have KT_17 := Lib.hid (KT_16.out.below b17 KT_16.out.lt)
      clear KT_16
      have KO_17 := Lib.hid (KO_16.out.below b17 KO_16.out.lt)
      clear KO_16
      have KJ_17 := Lib.hid (KJ_16.out.below b17 KJ_16.out.lt)
      clear KJ_16
      have B_17 := Lib.hid (B_16.out.trans (b17.mono B_16.out.size))
      clear B_16
      clear b17
      have lJ_17 : w7.heap.size < w17.heap.size := KJ_17.out.lt
      have cJ_0_17 : w17.cell? ⟨w7.heap.size, 0, none⟩ = some (.slice xa P.length xc) := KJ_17.out.cell 0
      have cJ_1_17 : w17.cell? ⟨w7.heap.size, 1, none⟩ = some (.slice ya Q.length yc) := KJ_17.out.cell 1
      go_wp2_with fail
      have hss : (s.toList == s.toList) = true := beq_self_eq_true _
      have hcc : (r2.toList == r2.toList) = true := beq_self_eq_true _
      clear lJ_17 cJ_0_17 cJ_1_17
      refine (check_ex P Q _ _ 0 _ (Lst.of_row X1_17.out) (Lst.of_row X2_17.out) ZP.out ZQ.out HJ0.out).mono ?_
      rintro e w18 ⟨rfl, b18⟩
      have V_18 := Lib.hid (V_17.out.below b18)
      clear V_17
      have U_18 := Lib.hid (U_17.out.below b18)
      clear U_17
      have V'_18 := Lib.hid (V'_17.out.below b18)
      clear V'_17
      have U'_18 := Lib.hid (U'_17.out.below b18)
      clear U'_17
      have X1_18 := Lib.hid (row_below X1_17.out b18)
      clear X1_17
      have X2_18 := Lib.hid (row_below X2_17.out b18)
      clear X2_17
      have Z1_18 := Lib.hid (row_below Z1_17.out b18)
      clear Z1_17
      have Z2_18 := Lib.hid (row_below Z2_17.out b18)
      clear Z2_17
      have Y1_18 := Lib.hid (row_below Y1_17.out b18)
      clear Y1_17
      have Y2_18 := Lib.hid (row_below Y2_17.out b18)
      clear Y2_17
      have KM_18 := Lib.hid (KM_17.out.below b18 KM_17.out.lt)
      clear KM_17
      have KT_18 := Lib.hid (KT_17.out.below b18 KT_17.out.lt)
      clear KT_17
      have KO_18 := Lib.hid (KO_17.out.below b18 KO_17.out.lt)
      clear KO_17
      have KJ_18 := Lib.hid (KJ_17.out.below b18 KJ_17.out.lt)
      clear KJ_17
      have B_18 := Lib.hid (B_17.out.trans (b18.mono B_17.out.size))
      clear B_17
      clear b18
      go_wp2
      go_ret
      exact ⟨rfl, B_18.out⟩
    · go_simp
      have gB := RB_13.out.size
      have neZ1 := Lib.hid (fun g (e : (.slice za b.length zc : Value).ownBlock = some g) => show g ≠ w13.heap.size from by have := (Z1.out.lt g e).2; omega)
      have neZ2 := Lib.hid (fun g (e : (.slice wa a.length wc : Value).ownBlock = some g) => show g ≠ w13.heap.size from by have := (Z2.out.lt g e).2; omega)
      have a3 : Below w13.heap.size w13 (w13.alloc (.cells #[.slice none 0 0, .slice none 0 0] 24)) := ((Below.refl w13.heap.size w13).alloc (by first | exact Nat.le_refl _ | (simp only [World.size_alloc]; omega)) (.cells #[.slice none 0 0, .slice none 0 0] 24))
      have M_new13 := (Blk.new w13 #[.slice none 0 0, .slice none 0 0] 24)
      have KM_013 := Lib.hid M_new13
      clear M_new13
      have V_14 := Lib.hid (V_13.out.below a3)
      clear V_13
      have U_14 := Lib.hid (U_13.out.below a3)
      clear U_13
      have V'_14 := Lib.hid (V'_13.out.below a3)
      clear V'_13
      have U'_14 := Lib.hid (U'_13.out.below a3)
      clear U'_13
      have X1_14 := Lib.hid (row_below X1_13.out a3)
      clear X1_13
      have X2_14 := Lib.hid (row_below X2_13.out a3)
      clear X2_13
      have RB_14 := Lib.hid (RB_13.out.trans (a3.mono RB_13.out.size))
      clear RB_13
      have Z1_14 := Lib.hid (row_below Z1.out a3)
      clear Z1
      have Z2_14 := Lib.hid (row_below Z2.out a3)
      clear Z2
      have KT_14 := Lib.hid (KT_13.out.below a3 KT_13.out.lt)
      clear KT_13
      have KO_14 := Lib.hid (KO_13.out.below a3 KO_13.out.lt)
      clear KO_13
      have KJ_14 := Lib.hid (KJ_13.out.below a3 KJ_13.out.lt)
      clear KJ_13
      have B_14 := Lib.hid (B_13.out.trans (a3.mono B_13.out.size))
      clear B_13
      clear a3
      generalize (w13.alloc (.cells #[.slice none 0 0, .slice none 0 0] 24)) = w14 at V_14 U_14 V'_14 U'_14 X1_14 X2_14 RB_14 Z1_14 Z2_14 KT_14 KO_14 KJ_14 KM_013 B_14 ⊢
      try go_simp
      refine hK.out _ _ (HS12.out _ RB_14.out) (fun hHeld => ?_)
      clear hK
      try simp only [Act.put, List.setIfInBounds_toArray, List.set_cons_zero, List.set_cons_succ]
      try (first | (refine take_yes (i := 0) (v := ?_) rfl (by kernel_rfl) (by decide +kernel) (by decide +kernel) (fun _ _ _ h => h) (by rfl) ?_ (by assumption) ?_; rotate_left; intro w hSw; (try dsimp only at hSw); go_simp; with_reducible rfl; simp only [Act.put, List.setIfInBounds_toArray, List.set_cons_zero, List.set_cons_succ]) | (refine take_no (i := 0) rfl (by kernel_rfl) (by decide +kernel) (by decide +kernel) (fun _ _ _ h => h) (by rfl) (by assumption) ?_; simp only [Act.put, List.setIfInBounds_toArray, List.set_cons_zero, List.set_cons_succ]))
      try (first | (refine take_yes (i := 1) (v := ?_) rfl (by kernel_rfl) (by decide +kernel) (by decide +kernel) (fun _ _ _ h => h) (by rfl) ?_ (by assumption) ?_; rotate_left; intro w hSw; (try dsimp only at hSw); go_simp; with_reducible rfl; simp only [Act.put, List.setIfInBounds_toArray, List.set_cons_zero, List.set_cons_succ]) | (refine take_no (i := 1) rfl (by kernel_rfl) (by decide +kernel) (by decide +kernel) (fun _ _ _ h => h) (by rfl) (by assumption) ?_; simp only [Act.put, List.setIfInBounds_toArray, List.set_cons_zero, List.set_cons_succ]))
      refine take_this (i := 3) (by decide +kernel) rfl (by rfl) (fun K hK => ?_)
      go_simp
      have gK := KM_013.out.lt
      go_at_call 28
      refine (join_ex a b b a _ _ _ _ P2 Q2 _ V_14.out U_14.out (Lst.of_row Z1_14.out) (Lst.of_row Z2_14.out) ZA.out ZB.out ZB.out ZA.out HP2.out HQ2.out).mono ?_
      rintro e w15 ⟨V3, rfl, ht, b15⟩
      have V_15 := Lib.hid (V_14.out.below b15)
      clear V_14
      have U_15 := Lib.hid (U_14.out.below b15)
      clear U_14
      have V'_15 := Lib.hid (V'_14.out.below b15)
      clear V'_14
      have U'_15 := Lib.hid (U'_14.out.below b15)
      clear U'_14
      have X1_15 := Lib.hid (row_below X1_14.out b15)
      clear X1_14
      have X2_15 := Lib.hid (row_below X2_14.out b15)
      clear X2_14
      have RB_15 := Lib.hid (RB_14.out.trans (b15.mono RB_14.out.size))
      clear RB_14
      have Z1_15 := Lib.hid (row_below Z1_14.out b15)
      clear Z1_14
      have Z2_15 := Lib.hid (row_below Z2_14.out b15)
      clear Z2_14
      have KT_15 := Lib.hid (KT_14.out.below b15 KT_14.out.lt)
      clear KT_14
      have KO_15 := Lib.hid (KO_14.out.below b15 KO_14.out.lt)
      clear KO_14
      have KJ_15 := Lib.hid (KJ_14.out.below b15 KJ_14.out.lt)
      clear KJ_14
      have KM_15 := Lib.hid (KM_013.out.below b15 KM_013.out.lt)
      clear KM_013
      have B_15 := Lib.hid (B_14.out.trans (b15.mono B_14.out.size))
      clear B_14
      clear b15
      obtain ⟨x1, x2, rfl, q3, q4⟩ := ht
      obtain ⟨ya2, yc2, rfl⟩ := row_slice q3
      obtain ⟨yb2, yd2, rfl⟩ := row_slice q4
      have Y1 := Lib.hid q3
      clear q3
      have Y2 := Lib.hid q4
      clear q4
      have neY1 := Lib.hid (fun g (e : (.slice ya2 P2.length yc2 : Value).ownBlock = some g) => show g ≠ w13.heap.size from by have := (Y1.out.lt g e).1; omega)
      have neY2 := Lib.hid (fun g (e : (.slice yb2 Q2.length yd2 : Value).ownBlock = some g) => show g ≠ w13.heap.size from by have := (Y2.out.lt g e).1; omega)
      clear gK
      try go_simp
      refine hK.out _ _ (HS12.out _ RB_15.out) (fun hHeld => ?_)
      clear hK
      try simp only [Act.put, List.setIfInBounds_toArray, List.set_cons_zero, List.set_cons_succ]
      try (first | (refine take_yes (i := 0) (v := ?_) rfl (by kernel_rfl) (by decide +kernel) (by decide +kernel) (fun _ _ _ h => h) (by rfl) ?_ (by assumption) ?_; rotate_left; intro w hSw; (try dsimp only at hSw); go_simp; with_reducible rfl; simp only [Act.put, List.setIfInBounds_toArray, List.set_cons_zero, List.set_cons_succ]) | (refine take_no (i := 0) rfl (by kernel_rfl) (by decide +kernel) (by decide +kernel) (fun _ _ _ h => h) (by rfl) (by assumption) ?_; simp only [Act.put, List.setIfInBounds_toArray, List.set_cons_zero, List.set_cons_succ]))
      try (first | (refine take_yes (i := 1) (v := ?_) rfl (by kernel_rfl) (by decide +kernel) (by decide +kernel) (fun _ _ _ h => h) (by rfl) ?_ (by assumption) ?_; rotate_left; intro w hSw; (try dsimp only at hSw); go_simp; with_reducible rfl; simp only [Act.put, List.setIfInBounds_toArray, List.set_cons_zero, List.set_cons_succ]) | (refine take_no (i := 1) rfl (by kernel_rfl) (by decide +kernel) (by decide +kernel) (fun _ _ _ h => h) (by rfl) (by assumption) ?_; simp only [Act.put, List.setIfInBounds_toArray, List.set_cons_zero, List.set_cons_succ]))
      refine take_this (i := 5) (by decide +kernel) rfl (by rfl) (fun K hK => ?_)
      have f0 := KM_15.out.frozen 0
      have e0 : w15.cell? ⟨w13.heap.size, 0, none⟩ = some (.slice none 0 0) := KM_15.out.cell 0
      have f1 := KM_15.out.frozen 1
      have e1 : w15.cell? ⟨w13.heap.size, 1, none⟩ = some (.slice none 0 0) := KM_15.out.cell 1
      go_simp
      clear f0 e0 f1 e1
      have RB_16 := Lib.hid ((RB_15.out.setCell (p := ⟨w13.heap.size, 0, none⟩) (by show w11.heap.size ≤ w13.heap.size; omega) (.slice ya2 P2.length yc2)).setCell (p := ⟨w13.heap.size, 1, none⟩) (by show w11.heap.size ≤ w13.heap.size; omega) (.slice yb2 Q2.length yd2))
      have KM_16 := Lib.hid ((KM_15.out.set 0 (.slice ya2 P2.length yc2)).set 1 (.slice yb2 Q2.length yd2))
      have V_16 := Lib.hid (V_o12.out.below RB_16.out)
      have U_16 := Lib.hid (U_o12.out.below RB_16.out)
      have V'_16 := Lib.hid (V'_o12.out.below RB_16.out)
      have U'_16 := Lib.hid (U'_o12.out.below RB_16.out)
      have X1_16 := Lib.hid (row_below X1_o12.out RB_16.out)
      have X2_16 := Lib.hid (row_below X2_o12.out RB_16.out)
      have Z1_16 := Lib.hid (row_other (row_other Z1_15.out (p := ⟨w13.heap.size, 0, none⟩) neZ1.out (.slice ya2 P2.length yc2)) (p := ⟨w13.heap.size, 1, none⟩) neZ1.out (.slice yb2 Q2.length yd2))
      have Z2_16 := Lib.hid (row_other (row_other Z2_15.out (p := ⟨w13.heap.size, 0, none⟩) neZ2.out (.slice ya2 P2.length yc2)) (p := ⟨w13.heap.size, 1, none⟩) neZ2.out (.slice yb2 Q2.length yd2))
      have Y1_16 := Lib.hid (row_other (row_other Y1.out (p := ⟨w13.heap.size, 0, none⟩) neY1.out (.slice ya2 P2.length yc2)) (p := ⟨w13.heap.size, 1, none⟩) neY1.out (.slice yb2 Q2.length yd2))
      have Y2_16 := Lib.hid (row_other (row_other Y2.out (p := ⟨w13.heap.size, 0, none⟩) neY2.out (.slice ya2 P2.length yc2)) (p := ⟨w13.heap.size, 1, none⟩) neY2.out (.slice yb2 Q2.length yd2))
      have KT_16 := Lib.hid (KT_o12.out.below RB_16.out KT_o12.out.lt)
      have KO_16 := Lib.hid (KO_o12.out.below RB_16.out KO_o12.out.lt)
      have KJ_16 := Lib.hid (KJ_o12.out.below RB_16.out KJ_o12.out.lt)
      have B_16 := Lib.hid (B_o12.out.trans (RB_16.out.mono B_o12.out.size))
      clear V_15 U_15 V'_15 U'_15 X1_15 X2_15 RB_15 Z1_15 Z2_15 Y1 Y2 KT_15 KO_15 KJ_15 KM_15 B_15
      clear V_o12 U_o12 V'_o12 U'_o12 X1_o12 X2_o12 KT_o12 KO_o12 KJ_o12 B_o12 neZ1 neZ2 neY1 neY2 gB
      generalize ((w15.setCell ⟨w13.heap.size, 0, none⟩ (.slice ya2 P2.length yc2)).setCell ⟨w13.heap.size, 1, none⟩ (.slice yb2 Q2.length yd2)) = w16 at RB_16 V_16 U_16 V'_16 U'_16 X1_16 X2_16 Z1_16 Z2_16 Y1_16 Y2_16 KM_16 KT_16 KO_16 KJ_16 B_16 ⊢
      try go_simp
      refine hK.out _ _ (HS12.out _ RB_16.out) (fun hHeld => ?_)
      clear hK
      try simp only [Act.put, List.setIfInBounds_toArray, List.set_cons_zero, List.set_cons_succ]
      refine wpAnyH_done (by decide +kernel) ?_ _
      clear hHeld HS12 RB_16
      have lM_16 : w13.heap.size < w16.heap.size := KM_16.out.lt
      have cM_0_16 : w16.cell? ⟨w13.heap.size, 0, none⟩ = some (.slice ya2 P2.length yc2) := KM_16.out.cell 0
      have cM_1_16 : w16.cell? ⟨w13.heap.size, 1, none⟩ = some (.slice yb2 Q2.length yd2) := KM_16.out.cell 1
      go_wp2_with fail
      clear lM_16 cM_0_16 cM_1_16
      refine (ahead_ex2 P2 Q2 _ _ s s true _ (Lst.of_row Y1_16.out) (Lst.of_row Y2_16.out) ZP2.out ZQ2.out HS.out HJ2.out).mono ?_
      rintro e w17 ⟨rfl, b17⟩
      have V_17 := Lib.hid (V_16.out.below b17)
      clear V_16
      have U_17 := Lib.hid (U_16.out.below b17)
      clear U_16
      have V'_17 := Lib.hid (V'_16.out.below b17)
      clear V'_16
      have U'_17 := Lib.hid (U'_16.out.below b17)
      clear U'_16
      have X1_17 := Lib.hid (row_below X1_16.out b17)
      clear X1_16
      have X2_17 := Lib.hid (row_below X2_16.out b17)
      clear X2_16
      have Z1_17 := Lib.hid (row_below Z1_16.out b17)
      clear Z1_16
      have Z2_17 := Lib.hid (row_below Z2_16.out b17)
      clear Z2_16
      have Y1_17 := Lib.hid (row_below Y1_16.out b17)
      clear Y1_16
      have Y2_17 := Lib.hid (row_below Y2_16.out b17)
      clear Y2_16
      have KM_17 := Lib.hid (KM_16.out.below b17 KM_16.out.lt)
      clear KM_16
      have KT_17 := Lib.hid (KT_16.out.below b17 KT_16.out.lt)
      clear KT_16
      have KO_17 := Lib.hid (KO_16.out.below b17 KO_16.out.lt)
      clear KO_16
      have KJ_17 := Lib.hid (KJ_16.out.below b17 KJ_16.out.lt)
      clear KJ_16
      have B_17 := Lib.hid (B_16.out.trans (b17.mono B_16.out.size))
      clear B_16
      clear b17
      have lJ_17 : w7.heap.size < w17.heap.size := KJ_17.out.lt
      have cJ_0_17 : w17.cell? ⟨w7.heap.size, 0, none⟩ = some (.slice xa P.length xc) := KJ_17.out.cell 0
      have cJ_1_17 : w17.cell? ⟨w7.heap.size, 1, none⟩ = some (.slice ya Q.length yc) := KJ_17.out.cell 1
      go_wp2_with fail
      have hss : (s.toList == s.toList) = true := beq_self_eq_true _
      have hcc : (r2.toList == r2.toList) = true := beq_self_eq_true _
      clear lJ_17 cJ_0_17 cJ_1_17
      refine (check_ex P Q _ _ 0 _ (Lst.of_row X1_17.out) (Lst.of_row X2_17.out) ZP.out ZQ.out HJ0.out).mono ?_
      rintro e w18 ⟨rfl, b18⟩
      have V_18 := Lib.hid (V_17.out.below b18)
      clear V_17
      have U_18 := Lib.hid (U_17.out.below b18)
      clear U_17
      have V'_18 := Lib.hid (V'_17.out.below b18)
      clear V'_17
      have U'_18 := Lib.hid (U'_17.out.below b18)
      clear U'_17
      have X1_18 := Lib.hid (row_below X1_17.out b18)
      clear X1_17
      have X2_18 := Lib.hid (row_below X2_17.out b18)
      clear X2_17
      have Z1_18 := Lib.hid (row_below Z1_17.out b18)
      clear Z1_17
      have Z2_18 := Lib.hid (row_below Z2_17.out b18)
      clear Z2_17
      have Y1_18 := Lib.hid (row_below Y1_17.out b18)
      clear Y1_17
      have Y2_18 := Lib.hid (row_below Y2_17.out b18)
      clear Y2_17
      have KM_18 := Lib.hid (KM_17.out.below b18 KM_17.out.lt)
      clear KM_17
      have KT_18 := Lib.hid (KT_17.out.below b18 KT_17.out.lt)
      clear KT_17
      have KO_18 := Lib.hid (KO_17.out.below b18 KO_17.out.lt)
      clear KO_17
      have KJ_18 := Lib.hid (KJ_17.out.below b18 KJ_17.out.lt)
      clear KJ_17
      have B_18 := Lib.hid (B_17.out.trans (b18.mono B_17.out.size))
      clear B_17
      clear b18
      go_wp2
      go_ret
      exact ⟨rfl, B_18.out⟩
  · go_simp
    have gB := RB0.out.size
    have a3 : Below w12.heap.size w12 (w12.alloc (.cells #[.slice none 0 0, .slice none 0 0] 24)) := ((Below.refl w12.heap.size w12).alloc (by first | exact Nat.le_refl _ | (simp only [World.size_alloc]; omega)) (.cells #[.slice none 0 0, .slice none 0 0] 24))
    have M_new12 := (Blk.new w12 #[.slice none 0 0, .slice none 0 0] 24)
    have KM_012 := Lib.hid M_new12
    clear M_new12
    have V_13 := Lib.hid (V_12.out.below a3)
    clear V_12
    have U_13 := Lib.hid (U_12.out.below a3)
    clear U_12
    have V'_13 := Lib.hid (V'_12.out.below a3)
    clear V'_12
    have U'_13 := Lib.hid (U'_12.out.below a3)
    clear U'_12
    have X1_13 := Lib.hid (row_below X1_12.out a3)
    clear X1_12
    have X2_13 := Lib.hid (row_below X2_12.out a3)
    clear X2_12
    have RB_13 := Lib.hid (RB0.out.trans (a3.mono RB0.out.size))
    clear RB0
    have KT_13 := Lib.hid (KT_12.out.below a3 KT_12.out.lt)
    clear KT_12
    have KO_13 := Lib.hid (KO_12.out.below a3 KO_12.out.lt)
    clear KO_12
    have KJ_13 := Lib.hid (KJ_12.out.below a3 KJ_12.out.lt)
    clear KJ_12
    have B_13 := Lib.hid (B_12.out.trans (a3.mono B_12.out.size))
    clear B_12
    clear a3
    generalize (w12.alloc (.cells #[.slice none 0 0, .slice none 0 0] 24)) = w13 at V_13 U_13 V'_13 U'_13 X1_13 X2_13 RB_13 KT_13 KO_13 KJ_13 KM_012 B_13 ⊢
    try go_simp
    refine hK.out _ _ (HS12.out _ RB_13.out) (fun hHeld => ?_)
    clear hK
    try simp only [Act.put, List.setIfInBounds_toArray, List.set_cons_zero, List.set_cons_succ]
    try (first | (refine take_yes (i := 0) (v := ?_) rfl (by kernel_rfl) (by decide +kernel) (by decide +kernel) (fun _ _ _ h => h) (by rfl) ?_ (by assumption) ?_; rotate_left; intro w hSw; (try dsimp only at hSw); go_simp; with_reducible rfl; simp only [Act.put, List.setIfInBounds_toArray, List.set_cons_zero, List.set_cons_succ]) | (refine take_no (i := 0) rfl (by kernel_rfl) (by decide +kernel) (by decide +kernel) (fun _ _ _ h => h) (by rfl) (by assumption) ?_; simp only [Act.put, List.setIfInBounds_toArray, List.set_cons_zero, List.set_cons_succ]))
    try (first | (refine take_yes (i := 1) (v := ?_) rfl (by kernel_rfl) (by decide +kernel) (by decide +kernel) (fun _ _ _ h => h) (by rfl) ?_ (by assumption) ?_; rotate_left; intro w hSw; (try dsimp only at hSw); go_simp; with_reducible rfl; simp only [Act.put, List.setIfInBounds_toArray, List.set_cons_zero, List.set_cons_succ]) | (refine take_no (i := 1) rfl (by kernel_rfl) (by decide +kernel) (by decide +kernel) (fun _ _ _ h => h) (by rfl) (by assumption) ?_; simp only [Act.put, List.setIfInBounds_toArray, List.set_cons_zero, List.set_cons_succ]))
    refine take_this (i := 2) (by decide +kernel) rfl (by rfl) (fun K hK => ?_)
    go_simp
    have gK := KM_012.out.lt
    go_at_call 27
    refine (inv_ex a b _ _ 0 _ V_13.out U_13.out ZA.out ZB.out HN.out HN'.out H0T.out).mono ?_
    rintro e w14 ⟨V2, rfl, ht, b14⟩
    have V_14 := Lib.hid (V_13.out.below b14)
    clear V_13
    have U_14 := Lib.hid (U_13.out.below b14)
    clear U_13
    have V'_14 := Lib.hid (V'_13.out.below b14)
    clear V'_13
    have U'_14 := Lib.hid (U'_13.out.below b14)
    clear U'_13
    have X1_14 := Lib.hid (row_below X1_13.out b14)
    clear X1_13
    have X2_14 := Lib.hid (row_below X2_13.out b14)
    clear X2_13
    have RB_14 := Lib.hid (RB_13.out.trans (b14.mono RB_13.out.size))
    clear RB_13
    have KT_14 := Lib.hid (KT_13.out.below b14 KT_13.out.lt)
    clear KT_13
    have KO_14 := Lib.hid (KO_13.out.below b14 KO_13.out.lt)
    clear KO_13
    have KJ_14 := Lib.hid (KJ_13.out.below b14 KJ_13.out.lt)
    clear KJ_13
    have KM_14 := Lib.hid (KM_012.out.below b14 KM_012.out.lt)
    clear KM_012
    have B_14 := Lib.hid (B_13.out.trans (b14.mono B_13.out.size))
    clear B_13
    clear b14
    rw [okL_yes rfl, okL_yes rfl] at ht
    obtain ⟨x1, x2, rfl, q1, q2⟩ := ht
    obtain ⟨za, zc, rfl⟩ := row_slice q1
    obtain ⟨wa, wc, rfl⟩ := row_slice q2
    have Z1 := Lib.hid q1
    clear q1
    have Z2 := Lib.hid q2
    clear q2
    have neZ1 := Lib.hid (fun g (e : (.slice za b.length zc : Value).ownBlock = some g) => show g ≠ w12.heap.size from by have := (Z1.out.lt g e).1; omega)
    have neZ2 := Lib.hid (fun g (e : (.slice wa a.length wc : Value).ownBlock = some g) => show g ≠ w12.heap.size from by have := (Z2.out.lt g e).1; omega)
    clear gK
    try go_simp
    refine hK.out _ _ (HS12.out _ RB_14.out) (fun hHeld => ?_)
    clear hK
    try simp only [Act.put, List.setIfInBounds_toArray, List.set_cons_zero, List.set_cons_succ]
    try (first | (refine take_yes (i := 0) (v := ?_) rfl (by kernel_rfl) (by decide +kernel) (by decide +kernel) (fun _ _ _ h => h) (by rfl) ?_ (by assumption) ?_; rotate_left; intro w hSw; (try dsimp only at hSw); go_simp; with_reducible rfl; simp only [Act.put, List.setIfInBounds_toArray, List.set_cons_zero, List.set_cons_succ]) | (refine take_no (i := 0) rfl (by kernel_rfl) (by decide +kernel) (by decide +kernel) (fun _ _ _ h => h) (by rfl) (by assumption) ?_; simp only [Act.put, List.setIfInBounds_toArray, List.set_cons_zero, List.set_cons_succ]))
    try (first | (refine take_yes (i := 1) (v := ?_) rfl (by kernel_rfl) (by decide +kernel) (by decide +kernel) (fun _ _ _ h => h) (by rfl) ?_ (by assumption) ?_; rotate_left; intro w hSw; (try dsimp only at hSw); go_simp; with_reducible rfl; simp only [Act.put, List.setIfInBounds_toArray, List.set_cons_zero, List.set_cons_succ]) | (refine take_no (i := 1) rfl (by kernel_rfl) (by decide +kernel) (by decide +kernel) (fun _ _ _ h => h) (by rfl) (by assumption) ?_; simp only [Act.put, List.setIfInBounds_toArray, List.set_cons_zero, List.set_cons_succ]))
    refine take_this (i := 3) (by decide +kernel) rfl (by rfl) (fun K hK => ?_)
    go_simp
    have gK := KM_14.out.lt
    go_at_call 28
    refine (join_ex a b b a _ _ _ _ P2 Q2 _ V_14.out U_14.out (Lst.of_row Z1.out) (Lst.of_row Z2.out) ZA.out ZB.out ZB.out ZA.out HP2.out HQ2.out).mono ?_
    rintro e w15 ⟨V3, rfl, ht, b15⟩
    have V_15 := Lib.hid (V_14.out.below b15)
    clear V_14
    have U_15 := Lib.hid (U_14.out.below b15)
    clear U_14
    have V'_15 := Lib.hid (V'_14.out.below b15)
    clear V'_14
    have U'_15 := Lib.hid (U'_14.out.below b15)
    clear U'_14
    have X1_15 := Lib.hid (row_below X1_14.out b15)
    clear X1_14
    have X2_15 := Lib.hid (row_below X2_14.out b15)
    clear X2_14
    have RB_15 := Lib.hid (RB_14.out.trans (b15.mono RB_14.out.size))
    clear RB_14
    have Z1_15 := Lib.hid (row_below Z1.out b15)
    clear Z1
    have Z2_15 := Lib.hid (row_below Z2.out b15)
    clear Z2
    have KT_15 := Lib.hid (KT_14.out.below b15 KT_14.out.lt)
    clear KT_14
    have KO_15 := Lib.hid (KO_14.out.below b15 KO_14.out.lt)
    clear KO_14
    have KJ_15 := Lib.hid (KJ_14.out.below b15 KJ_14.out.lt)
    clear KJ_14
    have KM_15 := Lib.hid (KM_14.out.below b15 KM_14.out.lt)
    clear KM_14
    have B_15 := Lib.hid (B_14.out.trans (b15.mono B_14.out.size))
    clear B_14
    clear b15
    obtain ⟨x1, x2, rfl, q3, q4⟩ := ht
    obtain ⟨ya2, yc2, rfl⟩ := row_slice q3
    obtain ⟨yb2, yd2, rfl⟩ := row_slice q4
    have Y1 := Lib.hid q3
    clear q3
    have Y2 := Lib.hid q4
    clear q4
    have neY1 := Lib.hid (fun g (e : (.slice ya2 P2.length yc2 : Value).ownBlock = some g) => show g ≠ w12.heap.size from by have := (Y1.out.lt g e).1; omega)
    have neY2 := Lib.hid (fun g (e : (.slice yb2 Q2.length yd2 : Value).ownBlock = some g) => show g ≠ w12.heap.size from by have := (Y2.out.lt g e).1; omega)
    clear gK
    try go_simp
    refine hK.out _ _ (HS12.out _ RB_15.out) (fun hHeld => ?_)
    clear hK
    try simp only [Act.put, List.setIfInBounds_toArray, List.set_cons_zero, List.set_cons_succ]
    try (first | (refine take_yes (i := 0) (v := ?_) rfl (by kernel_rfl) (by decide +kernel) (by decide +kernel) (fun _ _ _ h => h) (by rfl) ?_ (by assumption) ?_; rotate_left; intro w hSw; (try dsimp only at hSw); go_simp; with_reducible rfl; simp only [Act.put, List.setIfInBounds_toArray, List.set_cons_zero, List.set_cons_succ]) | (refine take_no (i := 0) rfl (by kernel_rfl) (by decide +kernel) (by decide +kernel) (fun _ _ _ h => h) (by rfl) (by assumption) ?_; simp only [Act.put, List.setIfInBounds_toArray, List.set_cons_zero, List.set_cons_succ]))
    try (first | (refine take_yes (i := 1) (v := ?_) rfl (by kernel_rfl) (by decide +kernel) (by decide +kernel) (fun _ _ _ h => h) (by rfl) ?_ (by assumption) ?_; rotate_left; intro w hSw; (try dsimp only at hSw); go_simp; with_reducible rfl; simp only [Act.put, List.setIfInBounds_toArray, List.set_cons_zero, List.set_cons_succ]) | (refine take_no (i := 1) rfl (by kernel_rfl) (by decide +kernel) (by decide +kernel) (fun _ _ _ h => h) (by rfl) (by assumption) ?_; simp only [Act.put, List.setIfInBounds_toArray, List.set_cons_zero, List.set_cons_succ]))
    refine take_this (i := 5) (by decide +kernel) rfl (by rfl) (fun K hK => ?_)
    have f0 := KM_15.out.frozen 0
    have e0 : w15.cell? ⟨w12.heap.size, 0, none⟩ = some (.slice none 0 0) := KM_15.out.cell 0
    have f1 := KM_15.out.frozen 1
    have e1 : w15.cell? ⟨w12.heap.size, 1, none⟩ = some (.slice none 0 0) := KM_15.out.cell 1
    go_simp
    clear f0 e0 f1 e1
    have RB_16 := Lib.hid ((RB_15.out.setCell (p := ⟨w12.heap.size, 0, none⟩) (by show w11.heap.size ≤ w12.heap.size; omega) (.slice ya2 P2.length yc2)).setCell (p := ⟨w12.heap.size, 1, none⟩) (by show w11.heap.size ≤ w12.heap.size; omega) (.slice yb2 Q2.length yd2))
    have KM_16 := Lib.hid ((KM_15.out.set 0 (.slice ya2 P2.length yc2)).set 1 (.slice yb2 Q2.length yd2))
    have V_16 := Lib.hid (V_o12.out.below RB_16.out)
    have U_16 := Lib.hid (U_o12.out.below RB_16.out)
    have V'_16 := Lib.hid (V'_o12.out.below RB_16.out)
    have U'_16 := Lib.hid (U'_o12.out.below RB_16.out)
    have X1_16 := Lib.hid (row_below X1_o12.out RB_16.out)
    have X2_16 := Lib.hid (row_below X2_o12.out RB_16.out)
    have Z1_16 := Lib.hid (row_other (row_other Z1_15.out (p := ⟨w12.heap.size, 0, none⟩) neZ1.out (.slice ya2 P2.length yc2)) (p := ⟨w12.heap.size, 1, none⟩) neZ1.out (.slice yb2 Q2.length yd2))
    have Z2_16 := Lib.hid (row_other (row_other Z2_15.out (p := ⟨w12.heap.size, 0, none⟩) neZ2.out (.slice ya2 P2.length yc2)) (p := ⟨w12.heap.size, 1, none⟩) neZ2.out (.slice yb2 Q2.length yd2))
    have Y1_16 := Lib.hid (row_other (row_other Y1.out (p := ⟨w12.heap.size, 0, none⟩) neY1.out (.slice ya2 P2.length yc2)) (p := ⟨w12.heap.size, 1, none⟩) neY1.out (.slice yb2 Q2.length yd2))
    have Y2_16 := Lib.hid (row_other (row_other Y2.out (p := ⟨w12.heap.size, 0, none⟩) neY2.out (.slice ya2 P2.length yc2)) (p := ⟨w12.heap.size, 1, none⟩) neY2.out (.slice yb2 Q2.length yd2))
    have KT_16 := Lib.hid (KT_o12.out.below RB_16.out KT_o12.out.lt)
    have KO_16 := Lib.hid (KO_o12.out.below RB_16.out KO_o12.out.lt)
    have KJ_16 := Lib.hid (KJ_o12.out.below RB_16.out KJ_o12.out.lt)
    have B_16 := Lib.hid (B_o12.out.trans (RB_16.out.mono B_o12.out.size))
    clear V_15 U_15 V'_15 U'_15 X1_15 X2_15 RB_15 Z1_15 Z2_15 Y1 Y2 KT_15 KO_15 KJ_15 KM_15 B_15
    clear V_o12 U_o12 V'_o12 U'_o12 X1_o12 X2_o12 KT_o12 KO_o12 KJ_o12 B_o12 neZ1 neZ2 neY1 neY2 gB
    generalize ((w15.setCell ⟨w12.heap.size, 0, none⟩ (.slice ya2 P2.length yc2)).setCell ⟨w12.heap.size, 1, none⟩ (.slice yb2 Q2.length yd2)) = w16 at RB_16 V_16 U_16 V'_16 U'_16 X1_16 X2_16 Z1_16 Z2_16 Y1_16 Y2_16 KM_16 KT_16 KO_16 KJ_16 B_16 ⊢
    try go_simp
    refine hK.out _ _ (HS12.out _ RB_16.out) (fun hHeld => ?_)
    clear hK
    try simp only [Act.put, List.setIfInBounds_toArray, List.set_cons_zero, List.set_cons_succ]
    refine wpAnyH_done (by decide +kernel) ?_ _
    clear hHeld HS12 RB_16
    have lM_16 : w12.heap.size < w16.heap.size := KM_16.out.lt
    have cM_0_16 : w16.cell? ⟨w12.heap.size, 0, none⟩ = some (.slice ya2 P2.length yc2) := KM_16.out.cell 0
    have cM_1_16 : w16.cell? ⟨w12.heap.size, 1, none⟩ = some (.slice yb2 Q2.length yd2) := KM_16.out.cell 1
    go_wp2_with fail
    clear lM_16 cM_0_16 cM_1_16
    refine (ahead_ex2 P2 Q2 _ _ s s true _ (Lst.of_row Y1_16.out) (Lst.of_row Y2_16.out) ZP2.out ZQ2.out HS.out HJ2.out).mono ?_
    rintro e w17 ⟨rfl, b17⟩
    have V_17 := Lib.hid (V_16.out.below b17)
    clear V_16
    have U_17 := Lib.hid (U_16.out.below b17)
    clear U_16
    have V'_17 := Lib.hid (V'_16.out.below b17)
    clear V'_16
    have U'_17 := Lib.hid (U'_16.out.below b17)
    clear U'_16
    have X1_17 := Lib.hid (row_below X1_16.out b17)
    clear X1_16
    have X2_17 := Lib.hid (row_below X2_16.out b17)
    clear X2_16
    have Z1_17 := Lib.hid (row_below Z1_16.out b17)
    clear Z1_16
    have Z2_17 := Lib.hid (row_below Z2_16.out b17)
    clear Z2_16
    have Y1_17 := Lib.hid (row_below Y1_16.out b17)
    clear Y1_16
    have Y2_17 := Lib.hid (row_below Y2_16.out b17)
    clear Y2_16
    have KM_17 := Lib.hid (KM_16.out.below b17 KM_16.out.lt)
    clear KM_16
    have KT_17 := Lib.hid (KT_16.out.below b17 KT_16.out.lt)
    clear KT_16
    have KO_17 := Lib.hid (KO_16.out.below b17 KO_16.out.lt)
    clear KO_16
    have KJ_17 := Lib.hid (KJ_16.out.below b17 KJ_16.out.lt)
    clear KJ_16
    have B_17 := Lib.hid (B_16.out.trans (b17.mono B_16.out.size))
    clear B_16
    clear b17
    have lJ_17 : w7.heap.size < w17.heap.size := KJ_17.out.lt
    have cJ_0_17 : w17.cell? ⟨w7.heap.size, 0, none⟩ = some (.slice xa P.length xc) := KJ_17.out.cell 0
    have cJ_1_17 : w17.cell? ⟨w7.heap.size, 1, none⟩ = some (.slice ya Q.length yc) := KJ_17.out.cell 1
    go_wp2_with fail
    have hss : (s.toList == s.toList) = true := beq_self_eq_true _
    have hcc : (r2.toList == r2.toList) = true := beq_self_eq_true _
    clear lJ_17 cJ_0_17 cJ_1_17
    refine (check_ex P Q _ _ 0 _ (Lst.of_row X1_17.out) (Lst.of_row X2_17.out) ZP.out ZQ.out HJ0.out).mono ?_
    rintro e w18 ⟨rfl, b18⟩
    have V_18 := Lib.hid (V_17.out.below b18)
    clear V_17
    have U_18 := Lib.hid (U_17.out.below b18)
    clear U_17
    have V'_18 := Lib.hid (V'_17.out.below b18)
    clear V'_17
    have U'_18 := Lib.hid (U'_17.out.below b18)
    clear U'_17
    have X1_18 := Lib.hid (row_below X1_17.out b18)
    clear X1_17
    have X2_18 := Lib.hid (row_below X2_17.out b18)
    clear X2_17
    have Z1_18 := Lib.hid (row_below Z1_17.out b18)
    clear Z1_17
    have Z2_18 := Lib.hid (row_below Z2_17.out b18)
    clear Z2_17
    have Y1_18 := Lib.hid (row_below Y1_17.out b18)
    clear Y1_17
    have Y2_18 := Lib.hid (row_below Y2_17.out b18)
    clear Y2_17
    have KM_18 := Lib.hid (KM_17.out.below b18 KM_17.out.lt)
    clear KM_17
    have KT_18 := Lib.hid (KT_17.out.below b18 KT_17.out.lt)
    clear KT_17
    have KO_18 := Lib.hid (KO_17.out.below b18 KO_17.out.lt)
    clear KO_17
    have KJ_18 := Lib.hid (KJ_17.out.below b18 KJ_17.out.lt)
    clear KJ_17
    have B_18 := Lib.hid (B_17.out.trans (b18.mono B_17.out.size))
    clear B_17
    clear b18
    go_wp2
    go_ret
    exact ⟨rfl, B_18.out⟩

theorem joins_tf (a b a' b' : List ByteArray) (v u v' u' : Value) (s : ByteArray) (w : World) (hv : Lst stc w v a) (hu : Lst stc w u b) (hv' : Lst stc w v' a') (hu' : Lst stc w u' b') (hn : NilFine v) (hn' : NilFine u) (hs : s.size ≤ maxLen) (h1 : (fewB a 210 && fewB b 210) = true) (h2 : (fewB a' 210 && fewB b' 210) = true) (h0 : checkF a b = 0) (h0x : checkF a' b' = 0) (r r2 : ByteArray) (hr : aheadF a b s = (r, true)) (hr2 : aheadF a' b' r = (r2, false)) :
    Calls Try.prog 6 #[.agg #[v, u], .agg #[v', u'], .string s] w fun e w' => e = .returned (.bool true) ∧ Below w.heap.size w w' := by
  obtain ⟨f1, f2⟩ := Bool.and_eq_true_iff.1 h1
  obtain ⟨f3, f4⟩ := Bool.and_eq_true_iff.1 h2
  obtain ⟨la, za⟩ := few_of f1
  obtain ⟨lb, zb⟩ := few_of f2
  obtain ⟨la', za'⟩ := few_of f3
  obtain ⟨lb', zb'⟩ := few_of f4
  clear f1 f2 f3 f4
  have hrz := aheadF_size hr zb
  have h0t := check_turn.1 h0
  obtain ⟨P, hP⟩ : ∃ p, (joinR a b a' b').map (·.1) = p := ⟨_, rfl⟩
  obtain ⟨Q, hQ⟩ : ∃ p, (joinR a b a' b').map (·.2) = p := ⟨_, rfl⟩
  obtain ⟨P2, hP2⟩ : ∃ p, (joinR a b b a).map (·.1) = p := ⟨_, rfl⟩
  obtain ⟨Q2, hQ2⟩ : ∃ p, (joinR a b b a).map (·.2) = p := ⟨_, rfl⟩
  obtain ⟨zP, zQ⟩ := join_sizes hP hQ za zb'
  obtain ⟨zP2, zQ2⟩ := join_sizes hP2 hQ2 za za
  have hj0 := join_check h0 h0x hP hQ
  have hj := (join_go h0 h0x hP hQ hr).trans hr2
  have hj2 := (join_go h0 h0t hP2 hQ2 hr).trans (aheadF_back hr)
  have H1 := Lib.hid h1
  have H2 := Lib.hid h2
  have ZA := Lib.hid za
  have ZB := Lib.hid zb
  have ZA' := Lib.hid za'
  have ZB' := Lib.hid zb'
  have H0 := Lib.hid h0
  have H0X := Lib.hid h0x
  have H0T := Lib.hid h0t
  have HR := Lib.hid hr
  have HR2 := Lib.hid hr2
  have HS := Lib.hid hs
  have HRZ := Lib.hid hrz
  have HN := Lib.hid hn
  have HN' := Lib.hid hn'
  have HP := Lib.hid hP
  have HQ := Lib.hid hQ
  have HP2 := Lib.hid hP2
  have HQ2 := Lib.hid hQ2
  have ZP := Lib.hid zP
  have ZQ := Lib.hid zQ
  have ZP2 := Lib.hid zP2
  have ZQ2 := Lib.hid zQ2
  have HJ0 := Lib.hid hj0
  have HJ := Lib.hid hj
  have HJ2 := Lib.hid hj2
  clear h1 h2 za zb za' zb' h0 h0x h0t hr hr2 hs hrz hn hn' hP hQ hP2 hQ2 zP zQ zP2 zQ2 hj0 hj hj2
  clear la lb la' lb'
  have HV := Lib.hid hv
  have HU := Lib.hid hu
  have HV' := Lib.hid hv'
  have HU' := Lib.hid hu'
  obtain ⟨va, vc, rfl⟩ := hv.slice
  obtain ⟨ua, uc, rfl⟩ := hu.slice
  obtain ⟨va', vc', rfl⟩ := hv'.slice
  obtain ⟨ua', uc', rfl⟩ := hu'.slice
  clear hv hu hv' hu'
  go_enter Try.func6, Try.ntmps6
  go_wp2_with fail
  have a1 : Below w.heap.size w ((w.alloc (.cells #[.slice va a.length vc, .slice ua b.length uc] 24)).alloc (.cells #[.slice va' a'.length vc', .slice ua' b'.length uc'] 24)) := (((Below.refl w.heap.size w).alloc (by first | exact Nat.le_refl _ | (simp only [World.size_alloc]; omega)) (.cells #[.slice va a.length vc, .slice ua b.length uc] 24)).alloc (by first | exact Nat.le_refl _ | (simp only [World.size_alloc]; omega)) (.cells #[.slice va' a'.length vc', .slice ua' b'.length uc'] 24))
  have T_new0 := ((Blk.new w #[.slice va a.length vc, .slice ua b.length uc] 24).alloc (.cells #[.slice va' a'.length vc', .slice ua' b'.length uc'] 24))
  have KT_00 := Lib.hid T_new0
  clear T_new0
  have O_new0 := (Blk.new (w.alloc (.cells #[.slice va a.length vc, .slice ua b.length uc] 24)) #[.slice va' a'.length vc', .slice ua' b'.length uc'] 24)
  rw [World.size_alloc] at O_new0
  have KO_00 := Lib.hid O_new0
  clear O_new0
  have V_1 := Lib.hid (HV.out.below a1)
  clear HV
  have U_1 := Lib.hid (HU.out.below a1)
  clear HU
  have V'_1 := Lib.hid (HV'.out.below a1)
  clear HV'
  have U'_1 := Lib.hid (HU'.out.below a1)
  clear HU'
  have B_1 := Lib.hid a1
  clear a1
  generalize ((w.alloc (.cells #[.slice va a.length vc, .slice ua b.length uc] 24)).alloc (.cells #[.slice va' a'.length vc', .slice ua' b'.length uc'] 24)) = w1 at V_1 U_1 V'_1 U'_1 KT_00 KO_00 B_1 ⊢
  refine (works_any _).mono ?_
  rintro e w2 ⟨rfl, b2⟩
  have V_2 := Lib.hid (V_1.out.below b2)
  clear V_1
  have U_2 := Lib.hid (U_1.out.below b2)
  clear U_1
  have V'_2 := Lib.hid (V'_1.out.below b2)
  clear V'_1
  have U'_2 := Lib.hid (U'_1.out.below b2)
  clear U'_1
  have KT_2 := Lib.hid (KT_00.out.below b2 KT_00.out.lt)
  clear KT_00
  have KO_2 := Lib.hid (KO_00.out.below b2 KO_00.out.lt)
  clear KO_00
  have B_2 := Lib.hid (B_1.out.trans (b2.mono B_1.out.size))
  clear B_1
  clear b2
  have lT_2 : w.heap.size < w2.heap.size := KT_2.out.lt
  have cT_0_2 : w2.cell? ⟨w.heap.size, 0, none⟩ = some (.slice va a.length vc) := KT_2.out.cell 0
  have cT_1_2 : w2.cell? ⟨w.heap.size, 1, none⟩ = some (.slice ua b.length uc) := KT_2.out.cell 1
  have lO_2 : w.heap.size + 1 < w2.heap.size := KO_2.out.lt
  have cO_0_2 : w2.cell? ⟨w.heap.size + 1, 0, none⟩ = some (.slice va' a'.length vc') := KO_2.out.cell 0
  have cO_1_2 : w2.cell? ⟨w.heap.size + 1, 1, none⟩ = some (.slice ua' b'.length uc') := KO_2.out.cell 1
  go_wp2_with fail
  clear lT_2 cT_0_2 cT_1_2 lO_2 cO_0_2 cO_1_2
  refine (few_ex a b _ _ true _ V_2.out U_2.out H1.out).mono ?_
  rintro e w3 ⟨rfl, b3⟩
  have V_3 := Lib.hid (V_2.out.below b3)
  clear V_2
  have U_3 := Lib.hid (U_2.out.below b3)
  clear U_2
  have V'_3 := Lib.hid (V'_2.out.below b3)
  clear V'_2
  have U'_3 := Lib.hid (U'_2.out.below b3)
  clear U'_2
  have KT_3 := Lib.hid (KT_2.out.below b3 KT_2.out.lt)
  clear KT_2
  have KO_3 := Lib.hid (KO_2.out.below b3 KO_2.out.lt)
  clear KO_2
  have B_3 := Lib.hid (B_2.out.trans (b3.mono B_2.out.size))
  clear B_2
  clear b3
  have lT_3 : w.heap.size < w3.heap.size := KT_3.out.lt
  have cT_0_3 : w3.cell? ⟨w.heap.size, 0, none⟩ = some (.slice va a.length vc) := KT_3.out.cell 0
  have cT_1_3 : w3.cell? ⟨w.heap.size, 1, none⟩ = some (.slice ua b.length uc) := KT_3.out.cell 1
  have lO_3 : w.heap.size + 1 < w3.heap.size := KO_3.out.lt
  have cO_0_3 : w3.cell? ⟨w.heap.size + 1, 0, none⟩ = some (.slice va' a'.length vc') := KO_3.out.cell 0
  have cO_1_3 : w3.cell? ⟨w.heap.size + 1, 1, none⟩ = some (.slice ua' b'.length uc') := KO_3.out.cell 1
  go_wp2_with fail
  clear lT_3 cT_0_3 cT_1_3 lO_3 cO_0_3 cO_1_3
  refine (few_ex a' b' _ _ true _ V'_3.out U'_3.out H2.out).mono ?_
  rintro e w4 ⟨rfl, b4⟩
  have V_4 := Lib.hid (V_3.out.below b4)
  clear V_3
  have U_4 := Lib.hid (U_3.out.below b4)
  clear U_3
  have V'_4 := Lib.hid (V'_3.out.below b4)
  clear V'_3
  have U'_4 := Lib.hid (U'_3.out.below b4)
  clear U'_3
  have KT_4 := Lib.hid (KT_3.out.below b4 KT_3.out.lt)
  clear KT_3
  have KO_4 := Lib.hid (KO_3.out.below b4 KO_3.out.lt)
  clear KO_3
  have B_4 := Lib.hid (B_3.out.trans (b4.mono B_3.out.size))
  clear B_3
  clear b4
  have lT_4 : w.heap.size < w4.heap.size := KT_4.out.lt
  have cT_0_4 : w4.cell? ⟨w.heap.size, 0, none⟩ = some (.slice va a.length vc) := KT_4.out.cell 0
  have cT_1_4 : w4.cell? ⟨w.heap.size, 1, none⟩ = some (.slice ua b.length uc) := KT_4.out.cell 1
  have lO_4 : w.heap.size + 1 < w4.heap.size := KO_4.out.lt
  have cO_0_4 : w4.cell? ⟨w.heap.size + 1, 0, none⟩ = some (.slice va' a'.length vc') := KO_4.out.cell 0
  have cO_1_4 : w4.cell? ⟨w.heap.size + 1, 1, none⟩ = some (.slice ua' b'.length uc') := KO_4.out.cell 1
  go_wp2_with fail
  clear lT_4 cT_0_4 cT_1_4 lO_4 cO_0_4 cO_1_4
  refine (check_ex a b _ _ 0 _ V_4.out U_4.out ZA.out ZB.out H0.out).mono ?_
  rintro e w5 ⟨rfl, b5⟩
  have V_5 := Lib.hid (V_4.out.below b5)
  clear V_4
  have U_5 := Lib.hid (U_4.out.below b5)
  clear U_4
  have V'_5 := Lib.hid (V'_4.out.below b5)
  clear V'_4
  have U'_5 := Lib.hid (U'_4.out.below b5)
  clear U'_4
  have KT_5 := Lib.hid (KT_4.out.below b5 KT_4.out.lt)
  clear KT_4
  have KO_5 := Lib.hid (KO_4.out.below b5 KO_4.out.lt)
  clear KO_4
  have B_5 := Lib.hid (B_4.out.trans (b5.mono B_4.out.size))
  clear B_4
  clear b5
  have lT_5 : w.heap.size < w5.heap.size := KT_5.out.lt
  have cT_0_5 : w5.cell? ⟨w.heap.size, 0, none⟩ = some (.slice va a.length vc) := KT_5.out.cell 0
  have cT_1_5 : w5.cell? ⟨w.heap.size, 1, none⟩ = some (.slice ua b.length uc) := KT_5.out.cell 1
  have lO_5 : w.heap.size + 1 < w5.heap.size := KO_5.out.lt
  have cO_0_5 : w5.cell? ⟨w.heap.size + 1, 0, none⟩ = some (.slice va' a'.length vc') := KO_5.out.cell 0
  have cO_1_5 : w5.cell? ⟨w.heap.size + 1, 1, none⟩ = some (.slice ua' b'.length uc') := KO_5.out.cell 1
  go_wp2_with fail
  clear lT_5 cT_0_5 cT_1_5 lO_5 cO_0_5 cO_1_5
  refine (check_ex a' b' _ _ 0 _ V'_5.out U'_5.out ZA'.out ZB'.out H0X.out).mono ?_
  rintro e w6 ⟨rfl, b6⟩
  have V_6 := Lib.hid (V_5.out.below b6)
  clear V_5
  have U_6 := Lib.hid (U_5.out.below b6)
  clear U_5
  have V'_6 := Lib.hid (V'_5.out.below b6)
  clear V'_5
  have U'_6 := Lib.hid (U'_5.out.below b6)
  clear U'_5
  have KT_6 := Lib.hid (KT_5.out.below b6 KT_5.out.lt)
  clear KT_5
  have KO_6 := Lib.hid (KO_5.out.below b6 KO_5.out.lt)
  clear KO_5
  have B_6 := Lib.hid (B_5.out.trans (b6.mono B_5.out.size))
  clear B_5
  clear b6
  have lT_6 : w.heap.size < w6.heap.size := KT_6.out.lt
  have cT_0_6 : w6.cell? ⟨w.heap.size, 0, none⟩ = some (.slice va a.length vc) := KT_6.out.cell 0
  have cT_1_6 : w6.cell? ⟨w.heap.size, 1, none⟩ = some (.slice ua b.length uc) := KT_6.out.cell 1
  have lO_6 : w.heap.size + 1 < w6.heap.size := KO_6.out.lt
  have cO_0_6 : w6.cell? ⟨w.heap.size + 1, 0, none⟩ = some (.slice va' a'.length vc') := KO_6.out.cell 0
  have cO_1_6 : w6.cell? ⟨w.heap.size + 1, 1, none⟩ = some (.slice ua' b'.length uc') := KO_6.out.cell 1
  go_wp2_with fail
  clear lT_6 cT_0_6 cT_1_6 lO_6 cO_0_6 cO_1_6
  refine (join_ex a b a' b' _ _ _ _ P Q _ V_6.out U_6.out V'_6.out U'_6.out ZA.out ZB.out ZA'.out ZB'.out HP.out HQ.out).mono ?_
  rintro e w7 ⟨V1, rfl, ht, b7⟩
  have V_7 := Lib.hid (V_6.out.below b7)
  clear V_6
  have U_7 := Lib.hid (U_6.out.below b7)
  clear U_6
  have V'_7 := Lib.hid (V'_6.out.below b7)
  clear V'_6
  have U'_7 := Lib.hid (U'_6.out.below b7)
  clear U'_6
  have KT_7 := Lib.hid (KT_6.out.below b7 KT_6.out.lt)
  clear KT_6
  have KO_7 := Lib.hid (KO_6.out.below b7 KO_6.out.lt)
  clear KO_6
  have B_7 := Lib.hid (B_6.out.trans (b7.mono B_6.out.size))
  clear B_6
  clear b7
  obtain ⟨x1, x2, rfl, r1, r2'⟩ := ht
  obtain ⟨xa, xc, rfl⟩ := row_slice r1
  obtain ⟨ya, yc, rfl⟩ := row_slice r2'
  have X1 := Lib.hid r1
  clear r1
  have X2 := Lib.hid r2'
  clear r2'
  have lT_7 : w.heap.size < w7.heap.size := KT_7.out.lt
  have cT_0_7 : w7.cell? ⟨w.heap.size, 0, none⟩ = some (.slice va a.length vc) := KT_7.out.cell 0
  have cT_1_7 : w7.cell? ⟨w.heap.size, 1, none⟩ = some (.slice ua b.length uc) := KT_7.out.cell 1
  have lO_7 : w.heap.size + 1 < w7.heap.size := KO_7.out.lt
  have cO_0_7 : w7.cell? ⟨w.heap.size + 1, 0, none⟩ = some (.slice va' a'.length vc') := KO_7.out.cell 0
  have cO_1_7 : w7.cell? ⟨w.heap.size + 1, 1, none⟩ = some (.slice ua' b'.length uc') := KO_7.out.cell 1
  go_wp2_with fail
  clear lT_7 cT_0_7 cT_1_7 lO_7 cO_0_7 cO_1_7
  have a2 : Below w7.heap.size w7 (w7.alloc (.cells #[.slice xa P.length xc, .slice ya Q.length yc] 24)) := ((Below.refl w7.heap.size w7).alloc (by first | exact Nat.le_refl _ | (simp only [World.size_alloc]; omega)) (.cells #[.slice xa P.length xc, .slice ya Q.length yc] 24))
  have J_new7 := (Blk.new w7 #[.slice xa P.length xc, .slice ya Q.length yc] 24)
  have KJ_07 := Lib.hid J_new7
  clear J_new7
  have V_8 := Lib.hid (V_7.out.below a2)
  clear V_7
  have U_8 := Lib.hid (U_7.out.below a2)
  clear U_7
  have V'_8 := Lib.hid (V'_7.out.below a2)
  clear V'_7
  have U'_8 := Lib.hid (U'_7.out.below a2)
  clear U'_7
  have X1_8 := Lib.hid (row_below X1.out a2)
  clear X1
  have X2_8 := Lib.hid (row_below X2.out a2)
  clear X2
  have KT_8 := Lib.hid (KT_7.out.below a2 KT_7.out.lt)
  clear KT_7
  have KO_8 := Lib.hid (KO_7.out.below a2 KO_7.out.lt)
  clear KO_7
  have B_8 := Lib.hid (B_7.out.trans (a2.mono B_7.out.size))
  clear B_7
  clear a2
  generalize (w7.alloc (.cells #[.slice xa P.length xc, .slice ya Q.length yc] 24)) = w8 at V_8 U_8 V'_8 U'_8 X1_8 X2_8 KT_8 KO_8 KJ_07 B_8 ⊢
  refine (ahead_ex2 a b _ _ s r true _ V_8.out U_8.out ZA.out ZB.out HS.out HR.out).mono ?_
  rintro e w9 ⟨rfl, b9⟩
  have V_9 := Lib.hid (V_8.out.below b9)
  clear V_8
  have U_9 := Lib.hid (U_8.out.below b9)
  clear U_8
  have V'_9 := Lib.hid (V'_8.out.below b9)
  clear V'_8
  have U'_9 := Lib.hid (U'_8.out.below b9)
  clear U'_8
  have X1_9 := Lib.hid (row_below X1_8.out b9)
  clear X1_8
  have X2_9 := Lib.hid (row_below X2_8.out b9)
  clear X2_8
  have KT_9 := Lib.hid (KT_8.out.below b9 KT_8.out.lt)
  clear KT_8
  have KO_9 := Lib.hid (KO_8.out.below b9 KO_8.out.lt)
  clear KO_8
  have KJ_9 := Lib.hid (KJ_07.out.below b9 KJ_07.out.lt)
  clear KJ_07
  have B_9 := Lib.hid (B_8.out.trans (b9.mono B_8.out.size))
  clear B_8
  clear b9
  have lT_9 : w.heap.size < w9.heap.size := KT_9.out.lt
  have cT_0_9 : w9.cell? ⟨w.heap.size, 0, none⟩ = some (.slice va a.length vc) := KT_9.out.cell 0
  have cT_1_9 : w9.cell? ⟨w.heap.size, 1, none⟩ = some (.slice ua b.length uc) := KT_9.out.cell 1
  have lO_9 : w.heap.size + 1 < w9.heap.size := KO_9.out.lt
  have cO_0_9 : w9.cell? ⟨w.heap.size + 1, 0, none⟩ = some (.slice va' a'.length vc') := KO_9.out.cell 0
  have cO_1_9 : w9.cell? ⟨w.heap.size + 1, 1, none⟩ = some (.slice ua' b'.length uc') := KO_9.out.cell 1
  go_wp2_with fail
  clear lT_9 cT_0_9 cT_1_9 lO_9 cO_0_9 cO_1_9
  refine (ahead_ex2 a' b' _ _ r r2 false _ V'_9.out U'_9.out ZA'.out ZB'.out HRZ.out HR2.out).mono ?_
  rintro e w10 ⟨rfl, b10⟩
  have V_10 := Lib.hid (V_9.out.below b10)
  clear V_9
  have U_10 := Lib.hid (U_9.out.below b10)
  clear U_9
  have V'_10 := Lib.hid (V'_9.out.below b10)
  clear V'_9
  have U'_10 := Lib.hid (U'_9.out.below b10)
  clear U'_9
  have X1_10 := Lib.hid (row_below X1_9.out b10)
  clear X1_9
  have X2_10 := Lib.hid (row_below X2_9.out b10)
  clear X2_9
  have KT_10 := Lib.hid (KT_9.out.below b10 KT_9.out.lt)
  clear KT_9
  have KO_10 := Lib.hid (KO_9.out.below b10 KO_9.out.lt)
  clear KO_9
  have KJ_10 := Lib.hid (KJ_9.out.below b10 KJ_9.out.lt)
  clear KJ_9
  have B_10 := Lib.hid (B_9.out.trans (b10.mono B_9.out.size))
  clear B_9
  clear b10
  have lJ_10 : w7.heap.size < w10.heap.size := KJ_10.out.lt
  have cJ_0_10 : w10.cell? ⟨w7.heap.size, 0, none⟩ = some (.slice xa P.length xc) := KJ_10.out.cell 0
  have cJ_1_10 : w10.cell? ⟨w7.heap.size, 1, none⟩ = some (.slice ya Q.length yc) := KJ_10.out.cell 1
  go_wp2_with fail
  clear lJ_10 cJ_0_10 cJ_1_10
  refine (ahead_ex2 P Q _ _ s r2 false _ (Lst.of_row X1_10.out) (Lst.of_row X2_10.out) ZP.out ZQ.out HS.out HJ.out).mono ?_
  rintro e w11 ⟨rfl, b11⟩
  have V_11 := Lib.hid (V_10.out.below b11)
  clear V_10
  have U_11 := Lib.hid (U_10.out.below b11)
  clear U_10
  have V'_11 := Lib.hid (V'_10.out.below b11)
  clear V'_10
  have U'_11 := Lib.hid (U'_10.out.below b11)
  clear U'_10
  have X1_11 := Lib.hid (row_below X1_10.out b11)
  clear X1_10
  have X2_11 := Lib.hid (row_below X2_10.out b11)
  clear X2_10
  have KT_11 := Lib.hid (KT_10.out.below b11 KT_10.out.lt)
  clear KT_10
  have KO_11 := Lib.hid (KO_10.out.below b11 KO_10.out.lt)
  clear KO_10
  have KJ_11 := Lib.hid (KJ_10.out.below b11 KJ_10.out.lt)
  clear KJ_10
  have B_11 := Lib.hid (B_10.out.trans (b11.mono B_10.out.size))
  clear B_10
  clear b11
  go_wp2_with fail
  have V_o12 := V_11
  have U_o12 := U_11
  have V'_o12 := V'_11
  have U'_o12 := U'_11
  have X1_o12 := X1_11
  have X2_o12 := X2_11
  have KT_o12 := KT_11
  have KO_o12 := KO_11
  have KJ_o12 := KJ_11
  have B_o12 := B_11
  have HS12 : Hid (∀ X : World, Below w11.heap.size w11 X → X.cell? ⟨w.heap.size, 0, none⟩ = some (.slice va a.length vc) ∧ X.cell? ⟨w.heap.size, 1, none⟩ = some (.slice ua b.length uc) ∧ Below w11.heap.size w11 X) := Lib.hid fun X h => ⟨(h.cell (p := ⟨w.heap.size, 0, none⟩) KT_11.out.lt).trans (KT_11.out.cell 0), (h.cell (p := ⟨w.heap.size, 1, none⟩) KT_11.out.lt).trans (KT_11.out.cell 1), h⟩
  refine wp_region_held_drew (S := fun X => X.cell? ⟨w.heap.size, 0, none⟩ = some (.slice va a.length vc) ∧ X.cell? ⟨w.heap.size, 1, none⟩ = some (.slice ua b.length uc) ∧ Below w11.heap.size w11 X) (by kernel_rfl) (HS12.out _ (Below.refl _ _).drew) (fun hHeld => ?_)
  have bd : Below w11.heap.size w11 w11.drew := (Below.refl _ _).drew
  have RB0 := Lib.hid bd
  have V_12 := Lib.hid (V_11.out.below bd)
  clear V_11
  have U_12 := Lib.hid (U_11.out.below bd)
  clear U_11
  have V'_12 := Lib.hid (V'_11.out.below bd)
  clear V'_11
  have U'_12 := Lib.hid (U'_11.out.below bd)
  clear U'_11
  have X1_12 := Lib.hid (row_below X1_11.out bd)
  clear X1_11
  have X2_12 := Lib.hid (row_below X2_11.out bd)
  clear X2_11
  have KT_12 := Lib.hid (KT_11.out.below bd KT_11.out.lt)
  clear KT_11
  have KO_12 := Lib.hid (KO_11.out.below bd KO_11.out.lt)
  clear KO_11
  have KJ_12 := Lib.hid (KJ_11.out.below bd KJ_11.out.lt)
  clear KJ_11
  have B_12 := Lib.hid (B_11.out.trans (bd.mono B_11.out.size))
  clear B_11
  clear bd
  generalize w11.drew = w12 at V_12 U_12 V'_12 U'_12 X1_12 X2_12 RB0 KT_12 KO_12 KJ_12 B_12 hHeld ⊢
  try (first | (refine take_yes (i := 0) (v := ?_) rfl (by kernel_rfl) (by decide +kernel) (by decide +kernel) (fun _ _ _ h => h) (by rfl) ?_ (by assumption) ?_; rotate_left; intro w hSw; (try dsimp only at hSw); go_simp; with_reducible rfl; simp only [Act.put, List.setIfInBounds_toArray, List.set_cons_zero, List.set_cons_succ]) | (refine take_no (i := 0) rfl (by kernel_rfl) (by decide +kernel) (by decide +kernel) (fun _ _ _ h => h) (by rfl) (by assumption) ?_; simp only [Act.put, List.setIfInBounds_toArray, List.set_cons_zero, List.set_cons_succ]))
  try (first | (refine take_yes (i := 1) (v := ?_) rfl (by kernel_rfl) (by decide +kernel) (by decide +kernel) (fun _ _ _ h => h) (by rfl) ?_ (by assumption) ?_; rotate_left; intro w hSw; (try dsimp only at hSw); go_simp; with_reducible rfl; simp only [Act.put, List.setIfInBounds_toArray, List.set_cons_zero, List.set_cons_succ]) | (refine take_no (i := 1) rfl (by kernel_rfl) (by decide +kernel) (by decide +kernel) (fun _ _ _ h => h) (by rfl) (by assumption) ?_; simp only [Act.put, List.setIfInBounds_toArray, List.set_cons_zero, List.set_cons_succ]))
  refine take_two (i := 2) (j := 4) (by decide +kernel) rfl rfl (by rfl) (by rfl) (fun K hK => ?_) (fun K hK => ?_)
  · go_simp
    go_at_call 27
    refine (inv_ex a b _ _ 0 _ V_12.out U_12.out ZA.out ZB.out HN.out HN'.out H0T.out).mono ?_
    rintro e w13 ⟨V2, rfl, ht, b13⟩
    have V_13 := Lib.hid (V_12.out.below b13)
    clear V_12
    have U_13 := Lib.hid (U_12.out.below b13)
    clear U_12
    have V'_13 := Lib.hid (V'_12.out.below b13)
    clear V'_12
    have U'_13 := Lib.hid (U'_12.out.below b13)
    clear U'_12
    have X1_13 := Lib.hid (row_below X1_12.out b13)
    clear X1_12
    have X2_13 := Lib.hid (row_below X2_12.out b13)
    clear X2_12
    have RB_13 := Lib.hid (RB0.out.trans (b13.mono RB0.out.size))
    clear RB0
    have KT_13 := Lib.hid (KT_12.out.below b13 KT_12.out.lt)
    clear KT_12
    have KO_13 := Lib.hid (KO_12.out.below b13 KO_12.out.lt)
    clear KO_12
    have KJ_13 := Lib.hid (KJ_12.out.below b13 KJ_12.out.lt)
    clear KJ_12
    have B_13 := Lib.hid (B_12.out.trans (b13.mono B_12.out.size))
    clear B_12
    clear b13
    rw [okL_yes rfl, okL_yes rfl] at ht
    obtain ⟨x1, x2, rfl, q1, q2⟩ := ht
    obtain ⟨za, zc, rfl⟩ := row_slice q1
    obtain ⟨wa, wc, rfl⟩ := row_slice q2
    have Z1 := Lib.hid q1
    clear q1
    have Z2 := Lib.hid q2
    clear q2
    try go_simp
    refine hK.out _ _ (HS12.out _ RB_13.out) (fun hHeld => ?_)
    clear hK
    try simp only [Act.put, List.setIfInBounds_toArray, List.set_cons_zero, List.set_cons_succ]
    try (first | (refine take_yes (i := 0) (v := ?_) rfl (by kernel_rfl) (by decide +kernel) (by decide +kernel) (fun _ _ _ h => h) (by rfl) ?_ (by assumption) ?_; rotate_left; intro w hSw; (try dsimp only at hSw); go_simp; with_reducible rfl; simp only [Act.put, List.setIfInBounds_toArray, List.set_cons_zero, List.set_cons_succ]) | (refine take_no (i := 0) rfl (by kernel_rfl) (by decide +kernel) (by decide +kernel) (fun _ _ _ h => h) (by rfl) (by assumption) ?_; simp only [Act.put, List.setIfInBounds_toArray, List.set_cons_zero, List.set_cons_succ]))
    try (first | (refine take_yes (i := 1) (v := ?_) rfl (by kernel_rfl) (by decide +kernel) (by decide +kernel) (fun _ _ _ h => h) (by rfl) ?_ (by assumption) ?_; rotate_left; intro w hSw; (try dsimp only at hSw); go_simp; with_reducible rfl; simp only [Act.put, List.setIfInBounds_toArray, List.set_cons_zero, List.set_cons_succ]) | (refine take_no (i := 1) rfl (by kernel_rfl) (by decide +kernel) (by decide +kernel) (fun _ _ _ h => h) (by rfl) (by assumption) ?_; simp only [Act.put, List.setIfInBounds_toArray, List.set_cons_zero, List.set_cons_succ]))
    refine take_two (i := 3) (j := 4) (by decide +kernel) rfl rfl (by rfl) (by rfl) (fun K hK => ?_) (fun K hK => ?_)
    · go_simp
      go_at_call 28
      refine (join_ex a b b a _ _ _ _ P2 Q2 _ V_13.out U_13.out (Lst.of_row Z1.out) (Lst.of_row Z2.out) ZA.out ZB.out ZB.out ZA.out HP2.out HQ2.out).mono ?_
      rintro e w14 ⟨V3, rfl, ht, b14⟩
      have V_14 := Lib.hid (V_13.out.below b14)
      clear V_13
      have U_14 := Lib.hid (U_13.out.below b14)
      clear U_13
      have V'_14 := Lib.hid (V'_13.out.below b14)
      clear V'_13
      have U'_14 := Lib.hid (U'_13.out.below b14)
      clear U'_13
      have X1_14 := Lib.hid (row_below X1_13.out b14)
      clear X1_13
      have X2_14 := Lib.hid (row_below X2_13.out b14)
      clear X2_13
      have RB_14 := Lib.hid (RB_13.out.trans (b14.mono RB_13.out.size))
      clear RB_13
      have Z1_14 := Lib.hid (row_below Z1.out b14)
      clear Z1
      have Z2_14 := Lib.hid (row_below Z2.out b14)
      clear Z2
      have KT_14 := Lib.hid (KT_13.out.below b14 KT_13.out.lt)
      clear KT_13
      have KO_14 := Lib.hid (KO_13.out.below b14 KO_13.out.lt)
      clear KO_13
      have KJ_14 := Lib.hid (KJ_13.out.below b14 KJ_13.out.lt)
      clear KJ_13
      have B_14 := Lib.hid (B_13.out.trans (b14.mono B_13.out.size))
      clear B_13
      clear b14
      obtain ⟨x1, x2, rfl, q3, q4⟩ := ht
      obtain ⟨ya2, yc2, rfl⟩ := row_slice q3
      obtain ⟨yb2, yd2, rfl⟩ := row_slice q4
      have Y1 := Lib.hid q3
      clear q3
      have Y2 := Lib.hid q4
      clear q4
      try go_simp
      refine hK.out _ _ (HS12.out _ RB_14.out) (fun hHeld => ?_)
      clear hK
      try simp only [Act.put, List.setIfInBounds_toArray, List.set_cons_zero, List.set_cons_succ]
      try (first | (refine take_yes (i := 0) (v := ?_) rfl (by kernel_rfl) (by decide +kernel) (by decide +kernel) (fun _ _ _ h => h) (by rfl) ?_ (by assumption) ?_; rotate_left; intro w hSw; (try dsimp only at hSw); go_simp; with_reducible rfl; simp only [Act.put, List.setIfInBounds_toArray, List.set_cons_zero, List.set_cons_succ]) | (refine take_no (i := 0) rfl (by kernel_rfl) (by decide +kernel) (by decide +kernel) (fun _ _ _ h => h) (by rfl) (by assumption) ?_; simp only [Act.put, List.setIfInBounds_toArray, List.set_cons_zero, List.set_cons_succ]))
      try (first | (refine take_yes (i := 1) (v := ?_) rfl (by kernel_rfl) (by decide +kernel) (by decide +kernel) (fun _ _ _ h => h) (by rfl) ?_ (by assumption) ?_; rotate_left; intro w hSw; (try dsimp only at hSw); go_simp; with_reducible rfl; simp only [Act.put, List.setIfInBounds_toArray, List.set_cons_zero, List.set_cons_succ]) | (refine take_no (i := 1) rfl (by kernel_rfl) (by decide +kernel) (by decide +kernel) (fun _ _ _ h => h) (by rfl) (by assumption) ?_; simp only [Act.put, List.setIfInBounds_toArray, List.set_cons_zero, List.set_cons_succ]))
      refine take_this (i := 4) (by decide +kernel) rfl (by rfl) (fun K hK => ?_)
      go_simp
      have gB := RB_14.out.size
      have neZ1 := Lib.hid (fun g (e : (.slice za b.length zc : Value).ownBlock = some g) => show g ≠ w14.heap.size from by have := (Z1_14.out.lt g e).2; omega)
      have neZ2 := Lib.hid (fun g (e : (.slice wa a.length wc : Value).ownBlock = some g) => show g ≠ w14.heap.size from by have := (Z2_14.out.lt g e).2; omega)
      have neY1 := Lib.hid (fun g (e : (.slice ya2 P2.length yc2 : Value).ownBlock = some g) => show g ≠ w14.heap.size from by have := (Y1.out.lt g e).2; omega)
      have neY2 := Lib.hid (fun g (e : (.slice yb2 Q2.length yd2 : Value).ownBlock = some g) => show g ≠ w14.heap.size from by have := (Y2.out.lt g e).2; omega)
      have a3 : Below w14.heap.size w14 (w14.alloc (.cells #[.slice none 0 0, .slice none 0 0] 24)) := ((Below.refl w14.heap.size w14).alloc (by first | exact Nat.le_refl _ | (simp only [World.size_alloc]; omega)) (.cells #[.slice none 0 0, .slice none 0 0] 24))
      have M_new14 := (Blk.new w14 #[.slice none 0 0, .slice none 0 0] 24)
      have KM_014 := Lib.hid M_new14
      clear M_new14
      have V_15 := Lib.hid (V_14.out.below a3)
      clear V_14
      have U_15 := Lib.hid (U_14.out.below a3)
      clear U_14
      have V'_15 := Lib.hid (V'_14.out.below a3)
      clear V'_14
      have U'_15 := Lib.hid (U'_14.out.below a3)
      clear U'_14
      have X1_15 := Lib.hid (row_below X1_14.out a3)
      clear X1_14
      have X2_15 := Lib.hid (row_below X2_14.out a3)
      clear X2_14
      have RB_15 := Lib.hid (RB_14.out.trans (a3.mono RB_14.out.size))
      clear RB_14
      have Z1_15 := Lib.hid (row_below Z1_14.out a3)
      clear Z1_14
      have Z2_15 := Lib.hid (row_below Z2_14.out a3)
      clear Z2_14
      have Y1_15 := Lib.hid (row_below Y1.out a3)
      clear Y1
      have Y2_15 := Lib.hid (row_below Y2.out a3)
      clear Y2
      have KT_15 := Lib.hid (KT_14.out.below a3 KT_14.out.lt)
      clear KT_14
      have KO_15 := Lib.hid (KO_14.out.below a3 KO_14.out.lt)
      clear KO_14
      have KJ_15 := Lib.hid (KJ_14.out.below a3 KJ_14.out.lt)
      clear KJ_14
      have B_15 := Lib.hid (B_14.out.trans (a3.mono B_14.out.size))
      clear B_14
      clear a3
      generalize (w14.alloc (.cells #[.slice none 0 0, .slice none 0 0] 24)) = w15 at V_15 U_15 V'_15 U'_15 X1_15 X2_15 RB_15 Z1_15 Z2_15 Y1_15 Y2_15 KT_15 KO_15 KJ_15 KM_014 B_15 ⊢
      try go_simp
      refine hK.out _ _ (HS12.out _ RB_15.out) (fun hHeld => ?_)
      clear hK
      try simp only [Act.put, List.setIfInBounds_toArray, List.set_cons_zero, List.set_cons_succ]
      try (first | (refine take_yes (i := 0) (v := ?_) rfl (by kernel_rfl) (by decide +kernel) (by decide +kernel) (fun _ _ _ h => h) (by rfl) ?_ (by assumption) ?_; rotate_left; intro w hSw; (try dsimp only at hSw); go_simp; with_reducible rfl; simp only [Act.put, List.setIfInBounds_toArray, List.set_cons_zero, List.set_cons_succ]) | (refine take_no (i := 0) rfl (by kernel_rfl) (by decide +kernel) (by decide +kernel) (fun _ _ _ h => h) (by rfl) (by assumption) ?_; simp only [Act.put, List.setIfInBounds_toArray, List.set_cons_zero, List.set_cons_succ]))
      try (first | (refine take_yes (i := 1) (v := ?_) rfl (by kernel_rfl) (by decide +kernel) (by decide +kernel) (fun _ _ _ h => h) (by rfl) ?_ (by assumption) ?_; rotate_left; intro w hSw; (try dsimp only at hSw); go_simp; with_reducible rfl; simp only [Act.put, List.setIfInBounds_toArray, List.set_cons_zero, List.set_cons_succ]) | (refine take_no (i := 1) rfl (by kernel_rfl) (by decide +kernel) (by decide +kernel) (fun _ _ _ h => h) (by rfl) (by assumption) ?_; simp only [Act.put, List.setIfInBounds_toArray, List.set_cons_zero, List.set_cons_succ]))
      refine take_this (i := 5) (by decide +kernel) rfl (by rfl) (fun K hK => ?_)
      have f0 := KM_014.out.frozen 0
      have e0 : w15.cell? ⟨w14.heap.size, 0, none⟩ = some (.slice none 0 0) := KM_014.out.cell 0
      have f1 := KM_014.out.frozen 1
      have e1 : w15.cell? ⟨w14.heap.size, 1, none⟩ = some (.slice none 0 0) := KM_014.out.cell 1
      go_simp
      clear f0 e0 f1 e1
      have RB_16 := Lib.hid ((RB_15.out.setCell (p := ⟨w14.heap.size, 0, none⟩) (by show w11.heap.size ≤ w14.heap.size; omega) (.slice ya2 P2.length yc2)).setCell (p := ⟨w14.heap.size, 1, none⟩) (by show w11.heap.size ≤ w14.heap.size; omega) (.slice yb2 Q2.length yd2))
      have KM_16 := Lib.hid ((KM_014.out.set 0 (.slice ya2 P2.length yc2)).set 1 (.slice yb2 Q2.length yd2))
      have V_16 := Lib.hid (V_o12.out.below RB_16.out)
      have U_16 := Lib.hid (U_o12.out.below RB_16.out)
      have V'_16 := Lib.hid (V'_o12.out.below RB_16.out)
      have U'_16 := Lib.hid (U'_o12.out.below RB_16.out)
      have X1_16 := Lib.hid (row_below X1_o12.out RB_16.out)
      have X2_16 := Lib.hid (row_below X2_o12.out RB_16.out)
      have Z1_16 := Lib.hid (row_other (row_other Z1_15.out (p := ⟨w14.heap.size, 0, none⟩) neZ1.out (.slice ya2 P2.length yc2)) (p := ⟨w14.heap.size, 1, none⟩) neZ1.out (.slice yb2 Q2.length yd2))
      have Z2_16 := Lib.hid (row_other (row_other Z2_15.out (p := ⟨w14.heap.size, 0, none⟩) neZ2.out (.slice ya2 P2.length yc2)) (p := ⟨w14.heap.size, 1, none⟩) neZ2.out (.slice yb2 Q2.length yd2))
      have Y1_16 := Lib.hid (row_other (row_other Y1_15.out (p := ⟨w14.heap.size, 0, none⟩) neY1.out (.slice ya2 P2.length yc2)) (p := ⟨w14.heap.size, 1, none⟩) neY1.out (.slice yb2 Q2.length yd2))
      have Y2_16 := Lib.hid (row_other (row_other Y2_15.out (p := ⟨w14.heap.size, 0, none⟩) neY2.out (.slice ya2 P2.length yc2)) (p := ⟨w14.heap.size, 1, none⟩) neY2.out (.slice yb2 Q2.length yd2))
      have KT_16 := Lib.hid (KT_o12.out.below RB_16.out KT_o12.out.lt)
      have KO_16 := Lib.hid (KO_o12.out.below RB_16.out KO_o12.out.lt)
      have KJ_16 := Lib.hid (KJ_o12.out.below RB_16.out KJ_o12.out.lt)
      have B_16 := Lib.hid (B_o12.out.trans (RB_16.out.mono B_o12.out.size))
      clear V_15 U_15 V'_15 U'_15 X1_15 X2_15 RB_15 Z1_15 Z2_15 Y1_15 Y2_15 KT_15 KO_15 KJ_15 KM_014 B_15
      clear V_o12 U_o12 V'_o12 U'_o12 X1_o12 X2_o12 KT_o12 KO_o12 KJ_o12 B_o12 neZ1 neZ2 neY1 neY2 gB
      generalize ((w15.setCell ⟨w14.heap.size, 0, none⟩ (.slice ya2 P2.length yc2)).setCell ⟨w14.heap.size, 1, none⟩ (.slice yb2 Q2.length yd2)) = w16 at RB_16 V_16 U_16 V'_16 U'_16 X1_16 X2_16 Z1_16 Z2_16 Y1_16 Y2_16 KM_16 KT_16 KO_16 KJ_16 B_16 ⊢
      try go_simp
      refine hK.out _ _ (HS12.out _ RB_16.out) (fun hHeld => ?_)
      clear hK
      try simp only [Act.put, List.setIfInBounds_toArray, List.set_cons_zero, List.set_cons_succ]
      refine wpAnyH_done (by decide +kernel) ?_ _
      clear hHeld HS12 RB_16
      have lM_16 : w14.heap.size < w16.heap.size := KM_16.out.lt
      have cM_0_16 : w16.cell? ⟨w14.heap.size, 0, none⟩ = some (.slice ya2 P2.length yc2) := KM_16.out.cell 0
      have cM_1_16 : w16.cell? ⟨w14.heap.size, 1, none⟩ = some (.slice yb2 Q2.length yd2) := KM_16.out.cell 1
      go_wp2_with fail
      clear lM_16 cM_0_16 cM_1_16
      refine (ahead_ex2 P2 Q2 _ _ s s true _ (Lst.of_row Y1_16.out) (Lst.of_row Y2_16.out) ZP2.out ZQ2.out HS.out HJ2.out).mono ?_
      rintro e w17 ⟨rfl, b17⟩
      have V_17 := Lib.hid (V_16.out.below b17)
      clear V_16
      have U_17 := Lib.hid (U_16.out.below b17)
      clear U_16
      have V'_17 := Lib.hid (V'_16.out.below b17)
      clear V'_16
      have U'_17 := Lib.hid (U'_16.out.below b17)
      clear U'_16
      have X1_17 := Lib.hid (row_below X1_16.out b17)
      clear X1_16
      have X2_17 := Lib.hid (row_below X2_16.out b17)
      clear X2_16
      have Z1_17 := Lib.hid (row_below Z1_16.out b17)
      clear Z1_16
      have Z2_17 := Lib.hid (row_below Z2_16.out b17)
      clear Z2_16
      have Y1_17 := Lib.hid (row_below Y1_16.out b17)
      clear Y1_16
      have Y2_17 := Lib.hid (row_below Y2_16.out b17)
      clear Y2_16
      have KM_17 := Lib.hid (KM_16.out.below b17 KM_16.out.lt)
      clear KM_16
      have KT_17 := Lib.hid (KT_16.out.below b17 KT_16.out.lt)
      clear KT_16
      have KO_17 := Lib.hid (KO_16.out.below b17 KO_16.out.lt)
      clear KO_16
      have KJ_17 := Lib.hid (KJ_16.out.below b17 KJ_16.out.lt)
      clear KJ_16
      have B_17 := Lib.hid (B_16.out.trans (b17.mono B_16.out.size))
      clear B_16
      clear b17
      have lJ_17 : w7.heap.size < w17.heap.size := KJ_17.out.lt
      have cJ_0_17 : w17.cell? ⟨w7.heap.size, 0, none⟩ = some (.slice xa P.length xc) := KJ_17.out.cell 0
      have cJ_1_17 : w17.cell? ⟨w7.heap.size, 1, none⟩ = some (.slice ya Q.length yc) := KJ_17.out.cell 1
      go_wp2_with fail
      have hss : (s.toList == s.toList) = true := beq_self_eq_true _
      have hcc : (r2.toList == r2.toList) = true := beq_self_eq_true _
      clear lJ_17 cJ_0_17 cJ_1_17
      refine (check_ex P Q _ _ 0 _ (Lst.of_row X1_17.out) (Lst.of_row X2_17.out) ZP.out ZQ.out HJ0.out).mono ?_
      rintro e w18 ⟨rfl, b18⟩
      have V_18 := Lib.hid (V_17.out.below b18)
      clear V_17
      have U_18 := Lib.hid (U_17.out.below b18)
      clear U_17
      have V'_18 := Lib.hid (V'_17.out.below b18)
      clear V'_17
      have U'_18 := Lib.hid (U'_17.out.below b18)
      clear U'_17
      have X1_18 := Lib.hid (row_below X1_17.out b18)
      clear X1_17
      have X2_18 := Lib.hid (row_below X2_17.out b18)
      clear X2_17
      have Z1_18 := Lib.hid (row_below Z1_17.out b18)
      clear Z1_17
      have Z2_18 := Lib.hid (row_below Z2_17.out b18)
      clear Z2_17
      have Y1_18 := Lib.hid (row_below Y1_17.out b18)
      clear Y1_17
      have Y2_18 := Lib.hid (row_below Y2_17.out b18)
      clear Y2_17
      have KM_18 := Lib.hid (KM_17.out.below b18 KM_17.out.lt)
      clear KM_17
      have KT_18 := Lib.hid (KT_17.out.below b18 KT_17.out.lt)
      clear KT_17
      have KO_18 := Lib.hid (KO_17.out.below b18 KO_17.out.lt)
      clear KO_17
      have KJ_18 := Lib.hid (KJ_17.out.below b18 KJ_17.out.lt)
      clear KJ_17
      have B_18 := Lib.hid (B_17.out.trans (b18.mono B_17.out.size))
      clear B_17
      clear b18
      go_wp2
      go_ret
      exact ⟨rfl, B_18.out⟩
    · go_simp
      have gB := RB_13.out.size
      have neZ1 := Lib.hid (fun g (e : (.slice za b.length zc : Value).ownBlock = some g) => show g ≠ w13.heap.size from by have := (Z1.out.lt g e).2; omega)
      have neZ2 := Lib.hid (fun g (e : (.slice wa a.length wc : Value).ownBlock = some g) => show g ≠ w13.heap.size from by have := (Z2.out.lt g e).2; omega)
      have a3 : Below w13.heap.size w13 (w13.alloc (.cells #[.slice none 0 0, .slice none 0 0] 24)) := ((Below.refl w13.heap.size w13).alloc (by first | exact Nat.le_refl _ | (simp only [World.size_alloc]; omega)) (.cells #[.slice none 0 0, .slice none 0 0] 24))
      have M_new13 := (Blk.new w13 #[.slice none 0 0, .slice none 0 0] 24)
      have KM_013 := Lib.hid M_new13
      clear M_new13
      have V_14 := Lib.hid (V_13.out.below a3)
      clear V_13
      have U_14 := Lib.hid (U_13.out.below a3)
      clear U_13
      have V'_14 := Lib.hid (V'_13.out.below a3)
      clear V'_13
      have U'_14 := Lib.hid (U'_13.out.below a3)
      clear U'_13
      have X1_14 := Lib.hid (row_below X1_13.out a3)
      clear X1_13
      have X2_14 := Lib.hid (row_below X2_13.out a3)
      clear X2_13
      have RB_14 := Lib.hid (RB_13.out.trans (a3.mono RB_13.out.size))
      clear RB_13
      have Z1_14 := Lib.hid (row_below Z1.out a3)
      clear Z1
      have Z2_14 := Lib.hid (row_below Z2.out a3)
      clear Z2
      have KT_14 := Lib.hid (KT_13.out.below a3 KT_13.out.lt)
      clear KT_13
      have KO_14 := Lib.hid (KO_13.out.below a3 KO_13.out.lt)
      clear KO_13
      have KJ_14 := Lib.hid (KJ_13.out.below a3 KJ_13.out.lt)
      clear KJ_13
      have B_14 := Lib.hid (B_13.out.trans (a3.mono B_13.out.size))
      clear B_13
      clear a3
      generalize (w13.alloc (.cells #[.slice none 0 0, .slice none 0 0] 24)) = w14 at V_14 U_14 V'_14 U'_14 X1_14 X2_14 RB_14 Z1_14 Z2_14 KT_14 KO_14 KJ_14 KM_013 B_14 ⊢
      try go_simp
      refine hK.out _ _ (HS12.out _ RB_14.out) (fun hHeld => ?_)
      clear hK
      try simp only [Act.put, List.setIfInBounds_toArray, List.set_cons_zero, List.set_cons_succ]
      try (first | (refine take_yes (i := 0) (v := ?_) rfl (by kernel_rfl) (by decide +kernel) (by decide +kernel) (fun _ _ _ h => h) (by rfl) ?_ (by assumption) ?_; rotate_left; intro w hSw; (try dsimp only at hSw); go_simp; with_reducible rfl; simp only [Act.put, List.setIfInBounds_toArray, List.set_cons_zero, List.set_cons_succ]) | (refine take_no (i := 0) rfl (by kernel_rfl) (by decide +kernel) (by decide +kernel) (fun _ _ _ h => h) (by rfl) (by assumption) ?_; simp only [Act.put, List.setIfInBounds_toArray, List.set_cons_zero, List.set_cons_succ]))
      try (first | (refine take_yes (i := 1) (v := ?_) rfl (by kernel_rfl) (by decide +kernel) (by decide +kernel) (fun _ _ _ h => h) (by rfl) ?_ (by assumption) ?_; rotate_left; intro w hSw; (try dsimp only at hSw); go_simp; with_reducible rfl; simp only [Act.put, List.setIfInBounds_toArray, List.set_cons_zero, List.set_cons_succ]) | (refine take_no (i := 1) rfl (by kernel_rfl) (by decide +kernel) (by decide +kernel) (fun _ _ _ h => h) (by rfl) (by assumption) ?_; simp only [Act.put, List.setIfInBounds_toArray, List.set_cons_zero, List.set_cons_succ]))
      refine take_this (i := 3) (by decide +kernel) rfl (by rfl) (fun K hK => ?_)
      go_simp
      have gK := KM_013.out.lt
      go_at_call 28
      refine (join_ex a b b a _ _ _ _ P2 Q2 _ V_14.out U_14.out (Lst.of_row Z1_14.out) (Lst.of_row Z2_14.out) ZA.out ZB.out ZB.out ZA.out HP2.out HQ2.out).mono ?_
      rintro e w15 ⟨V3, rfl, ht, b15⟩
      have V_15 := Lib.hid (V_14.out.below b15)
      clear V_14
      have U_15 := Lib.hid (U_14.out.below b15)
      clear U_14
      have V'_15 := Lib.hid (V'_14.out.below b15)
      clear V'_14
      have U'_15 := Lib.hid (U'_14.out.below b15)
      clear U'_14
      have X1_15 := Lib.hid (row_below X1_14.out b15)
      clear X1_14
      have X2_15 := Lib.hid (row_below X2_14.out b15)
      clear X2_14
      have RB_15 := Lib.hid (RB_14.out.trans (b15.mono RB_14.out.size))
      clear RB_14
      have Z1_15 := Lib.hid (row_below Z1_14.out b15)
      clear Z1_14
      have Z2_15 := Lib.hid (row_below Z2_14.out b15)
      clear Z2_14
      have KT_15 := Lib.hid (KT_14.out.below b15 KT_14.out.lt)
      clear KT_14
      have KO_15 := Lib.hid (KO_14.out.below b15 KO_14.out.lt)
      clear KO_14
      have KJ_15 := Lib.hid (KJ_14.out.below b15 KJ_14.out.lt)
      clear KJ_14
      have KM_15 := Lib.hid (KM_013.out.below b15 KM_013.out.lt)
      clear KM_013
      have B_15 := Lib.hid (B_14.out.trans (b15.mono B_14.out.size))
      clear B_14
      clear b15
      obtain ⟨x1, x2, rfl, q3, q4⟩ := ht
      obtain ⟨ya2, yc2, rfl⟩ := row_slice q3
      obtain ⟨yb2, yd2, rfl⟩ := row_slice q4
      have Y1 := Lib.hid q3
      clear q3
      have Y2 := Lib.hid q4
      clear q4
      have neY1 := Lib.hid (fun g (e : (.slice ya2 P2.length yc2 : Value).ownBlock = some g) => show g ≠ w13.heap.size from by have := (Y1.out.lt g e).1; omega)
      have neY2 := Lib.hid (fun g (e : (.slice yb2 Q2.length yd2 : Value).ownBlock = some g) => show g ≠ w13.heap.size from by have := (Y2.out.lt g e).1; omega)
      clear gK
      try go_simp
      refine hK.out _ _ (HS12.out _ RB_15.out) (fun hHeld => ?_)
      clear hK
      try simp only [Act.put, List.setIfInBounds_toArray, List.set_cons_zero, List.set_cons_succ]
      try (first | (refine take_yes (i := 0) (v := ?_) rfl (by kernel_rfl) (by decide +kernel) (by decide +kernel) (fun _ _ _ h => h) (by rfl) ?_ (by assumption) ?_; rotate_left; intro w hSw; (try dsimp only at hSw); go_simp; with_reducible rfl; simp only [Act.put, List.setIfInBounds_toArray, List.set_cons_zero, List.set_cons_succ]) | (refine take_no (i := 0) rfl (by kernel_rfl) (by decide +kernel) (by decide +kernel) (fun _ _ _ h => h) (by rfl) (by assumption) ?_; simp only [Act.put, List.setIfInBounds_toArray, List.set_cons_zero, List.set_cons_succ]))
      try (first | (refine take_yes (i := 1) (v := ?_) rfl (by kernel_rfl) (by decide +kernel) (by decide +kernel) (fun _ _ _ h => h) (by rfl) ?_ (by assumption) ?_; rotate_left; intro w hSw; (try dsimp only at hSw); go_simp; with_reducible rfl; simp only [Act.put, List.setIfInBounds_toArray, List.set_cons_zero, List.set_cons_succ]) | (refine take_no (i := 1) rfl (by kernel_rfl) (by decide +kernel) (by decide +kernel) (fun _ _ _ h => h) (by rfl) (by assumption) ?_; simp only [Act.put, List.setIfInBounds_toArray, List.set_cons_zero, List.set_cons_succ]))
      refine take_this (i := 5) (by decide +kernel) rfl (by rfl) (fun K hK => ?_)
      have f0 := KM_15.out.frozen 0
      have e0 : w15.cell? ⟨w13.heap.size, 0, none⟩ = some (.slice none 0 0) := KM_15.out.cell 0
      have f1 := KM_15.out.frozen 1
      have e1 : w15.cell? ⟨w13.heap.size, 1, none⟩ = some (.slice none 0 0) := KM_15.out.cell 1
      go_simp
      clear f0 e0 f1 e1
      have RB_16 := Lib.hid ((RB_15.out.setCell (p := ⟨w13.heap.size, 0, none⟩) (by show w11.heap.size ≤ w13.heap.size; omega) (.slice ya2 P2.length yc2)).setCell (p := ⟨w13.heap.size, 1, none⟩) (by show w11.heap.size ≤ w13.heap.size; omega) (.slice yb2 Q2.length yd2))
      have KM_16 := Lib.hid ((KM_15.out.set 0 (.slice ya2 P2.length yc2)).set 1 (.slice yb2 Q2.length yd2))
      have V_16 := Lib.hid (V_o12.out.below RB_16.out)
      have U_16 := Lib.hid (U_o12.out.below RB_16.out)
      have V'_16 := Lib.hid (V'_o12.out.below RB_16.out)
      have U'_16 := Lib.hid (U'_o12.out.below RB_16.out)
      have X1_16 := Lib.hid (row_below X1_o12.out RB_16.out)
      have X2_16 := Lib.hid (row_below X2_o12.out RB_16.out)
      have Z1_16 := Lib.hid (row_other (row_other Z1_15.out (p := ⟨w13.heap.size, 0, none⟩) neZ1.out (.slice ya2 P2.length yc2)) (p := ⟨w13.heap.size, 1, none⟩) neZ1.out (.slice yb2 Q2.length yd2))
      have Z2_16 := Lib.hid (row_other (row_other Z2_15.out (p := ⟨w13.heap.size, 0, none⟩) neZ2.out (.slice ya2 P2.length yc2)) (p := ⟨w13.heap.size, 1, none⟩) neZ2.out (.slice yb2 Q2.length yd2))
      have Y1_16 := Lib.hid (row_other (row_other Y1.out (p := ⟨w13.heap.size, 0, none⟩) neY1.out (.slice ya2 P2.length yc2)) (p := ⟨w13.heap.size, 1, none⟩) neY1.out (.slice yb2 Q2.length yd2))
      have Y2_16 := Lib.hid (row_other (row_other Y2.out (p := ⟨w13.heap.size, 0, none⟩) neY2.out (.slice ya2 P2.length yc2)) (p := ⟨w13.heap.size, 1, none⟩) neY2.out (.slice yb2 Q2.length yd2))
      have KT_16 := Lib.hid (KT_o12.out.below RB_16.out KT_o12.out.lt)
      have KO_16 := Lib.hid (KO_o12.out.below RB_16.out KO_o12.out.lt)
      have KJ_16 := Lib.hid (KJ_o12.out.below RB_16.out KJ_o12.out.lt)
      have B_16 := Lib.hid (B_o12.out.trans (RB_16.out.mono B_o12.out.size))
      clear V_15 U_15 V'_15 U'_15 X1_15 X2_15 RB_15 Z1_15 Z2_15 Y1 Y2 KT_15 KO_15 KJ_15 KM_15 B_15
      clear V_o12 U_o12 V'_o12 U'_o12 X1_o12 X2_o12 KT_o12 KO_o12 KJ_o12 B_o12 neZ1 neZ2 neY1 neY2 gB
      generalize ((w15.setCell ⟨w13.heap.size, 0, none⟩ (.slice ya2 P2.length yc2)).setCell ⟨w13.heap.size, 1, none⟩ (.slice yb2 Q2.length yd2)) = w16 at RB_16 V_16 U_16 V'_16 U'_16 X1_16 X2_16 Z1_16 Z2_16 Y1_16 Y2_16 KM_16 KT_16 KO_16 KJ_16 B_16 ⊢
      try go_simp
      refine hK.out _ _ (HS12.out _ RB_16.out) (fun hHeld => ?_)
      clear hK
      try simp only [Act.put, List.setIfInBounds_toArray, List.set_cons_zero, List.set_cons_succ]
      refine wpAnyH_done (by decide +kernel) ?_ _
      clear hHeld HS12 RB_16
      have lM_16 : w13.heap.size < w16.heap.size := KM_16.out.lt
      have cM_0_16 : w16.cell? ⟨w13.heap.size, 0, none⟩ = some (.slice ya2 P2.length yc2) := KM_16.out.cell 0
      have cM_1_16 : w16.cell? ⟨w13.heap.size, 1, none⟩ = some (.slice yb2 Q2.length yd2) := KM_16.out.cell 1
      go_wp2_with fail
      clear lM_16 cM_0_16 cM_1_16
      refine (ahead_ex2 P2 Q2 _ _ s s true _ (Lst.of_row Y1_16.out) (Lst.of_row Y2_16.out) ZP2.out ZQ2.out HS.out HJ2.out).mono ?_
      rintro e w17 ⟨rfl, b17⟩
      have V_17 := Lib.hid (V_16.out.below b17)
      clear V_16
      have U_17 := Lib.hid (U_16.out.below b17)
      clear U_16
      have V'_17 := Lib.hid (V'_16.out.below b17)
      clear V'_16
      have U'_17 := Lib.hid (U'_16.out.below b17)
      clear U'_16
      have X1_17 := Lib.hid (row_below X1_16.out b17)
      clear X1_16
      have X2_17 := Lib.hid (row_below X2_16.out b17)
      clear X2_16
      have Z1_17 := Lib.hid (row_below Z1_16.out b17)
      clear Z1_16
      have Z2_17 := Lib.hid (row_below Z2_16.out b17)
      clear Z2_16
      have Y1_17 := Lib.hid (row_below Y1_16.out b17)
      clear Y1_16
      have Y2_17 := Lib.hid (row_below Y2_16.out b17)
      clear Y2_16
      have KM_17 := Lib.hid (KM_16.out.below b17 KM_16.out.lt)
      clear KM_16
      have KT_17 := Lib.hid (KT_16.out.below b17 KT_16.out.lt)
      clear KT_16
      have KO_17 := Lib.hid (KO_16.out.below b17 KO_16.out.lt)
      clear KO_16
      have KJ_17 := Lib.hid (KJ_16.out.below b17 KJ_16.out.lt)
      clear KJ_16
      have B_17 := Lib.hid (B_16.out.trans (b17.mono B_16.out.size))
      clear B_16
      clear b17
      have lJ_17 : w7.heap.size < w17.heap.size := KJ_17.out.lt
      have cJ_0_17 : w17.cell? ⟨w7.heap.size, 0, none⟩ = some (.slice xa P.length xc) := KJ_17.out.cell 0
      have cJ_1_17 : w17.cell? ⟨w7.heap.size, 1, none⟩ = some (.slice ya Q.length yc) := KJ_17.out.cell 1
      go_wp2_with fail
      have hss : (s.toList == s.toList) = true := beq_self_eq_true _
      have hcc : (r2.toList == r2.toList) = true := beq_self_eq_true _
      clear lJ_17 cJ_0_17 cJ_1_17
      refine (check_ex P Q _ _ 0 _ (Lst.of_row X1_17.out) (Lst.of_row X2_17.out) ZP.out ZQ.out HJ0.out).mono ?_
      rintro e w18 ⟨rfl, b18⟩
      have V_18 := Lib.hid (V_17.out.below b18)
      clear V_17
      have U_18 := Lib.hid (U_17.out.below b18)
      clear U_17
      have V'_18 := Lib.hid (V'_17.out.below b18)
      clear V'_17
      have U'_18 := Lib.hid (U'_17.out.below b18)
      clear U'_17
      have X1_18 := Lib.hid (row_below X1_17.out b18)
      clear X1_17
      have X2_18 := Lib.hid (row_below X2_17.out b18)
      clear X2_17
      have Z1_18 := Lib.hid (row_below Z1_17.out b18)
      clear Z1_17
      have Z2_18 := Lib.hid (row_below Z2_17.out b18)
      clear Z2_17
      have Y1_18 := Lib.hid (row_below Y1_17.out b18)
      clear Y1_17
      have Y2_18 := Lib.hid (row_below Y2_17.out b18)
      clear Y2_17
      have KM_18 := Lib.hid (KM_17.out.below b18 KM_17.out.lt)
      clear KM_17
      have KT_18 := Lib.hid (KT_17.out.below b18 KT_17.out.lt)
      clear KT_17
      have KO_18 := Lib.hid (KO_17.out.below b18 KO_17.out.lt)
      clear KO_17
      have KJ_18 := Lib.hid (KJ_17.out.below b18 KJ_17.out.lt)
      clear KJ_17
      have B_18 := Lib.hid (B_17.out.trans (b18.mono B_17.out.size))
      clear B_17
      clear b18
      go_wp2
      go_ret
      exact ⟨rfl, B_18.out⟩
  · go_simp
    have gB := RB0.out.size
    have a3 : Below w12.heap.size w12 (w12.alloc (.cells #[.slice none 0 0, .slice none 0 0] 24)) := ((Below.refl w12.heap.size w12).alloc (by first | exact Nat.le_refl _ | (simp only [World.size_alloc]; omega)) (.cells #[.slice none 0 0, .slice none 0 0] 24))
    have M_new12 := (Blk.new w12 #[.slice none 0 0, .slice none 0 0] 24)
    have KM_012 := Lib.hid M_new12
    clear M_new12
    have V_13 := Lib.hid (V_12.out.below a3)
    clear V_12
    have U_13 := Lib.hid (U_12.out.below a3)
    clear U_12
    have V'_13 := Lib.hid (V'_12.out.below a3)
    clear V'_12
    have U'_13 := Lib.hid (U'_12.out.below a3)
    clear U'_12
    have X1_13 := Lib.hid (row_below X1_12.out a3)
    clear X1_12
    have X2_13 := Lib.hid (row_below X2_12.out a3)
    clear X2_12
    have RB_13 := Lib.hid (RB0.out.trans (a3.mono RB0.out.size))
    clear RB0
    have KT_13 := Lib.hid (KT_12.out.below a3 KT_12.out.lt)
    clear KT_12
    have KO_13 := Lib.hid (KO_12.out.below a3 KO_12.out.lt)
    clear KO_12
    have KJ_13 := Lib.hid (KJ_12.out.below a3 KJ_12.out.lt)
    clear KJ_12
    have B_13 := Lib.hid (B_12.out.trans (a3.mono B_12.out.size))
    clear B_12
    clear a3
    generalize (w12.alloc (.cells #[.slice none 0 0, .slice none 0 0] 24)) = w13 at V_13 U_13 V'_13 U'_13 X1_13 X2_13 RB_13 KT_13 KO_13 KJ_13 KM_012 B_13 ⊢
    try go_simp
    refine hK.out _ _ (HS12.out _ RB_13.out) (fun hHeld => ?_)
    clear hK
    try simp only [Act.put, List.setIfInBounds_toArray, List.set_cons_zero, List.set_cons_succ]
    try (first | (refine take_yes (i := 0) (v := ?_) rfl (by kernel_rfl) (by decide +kernel) (by decide +kernel) (fun _ _ _ h => h) (by rfl) ?_ (by assumption) ?_; rotate_left; intro w hSw; (try dsimp only at hSw); go_simp; with_reducible rfl; simp only [Act.put, List.setIfInBounds_toArray, List.set_cons_zero, List.set_cons_succ]) | (refine take_no (i := 0) rfl (by kernel_rfl) (by decide +kernel) (by decide +kernel) (fun _ _ _ h => h) (by rfl) (by assumption) ?_; simp only [Act.put, List.setIfInBounds_toArray, List.set_cons_zero, List.set_cons_succ]))
    try (first | (refine take_yes (i := 1) (v := ?_) rfl (by kernel_rfl) (by decide +kernel) (by decide +kernel) (fun _ _ _ h => h) (by rfl) ?_ (by assumption) ?_; rotate_left; intro w hSw; (try dsimp only at hSw); go_simp; with_reducible rfl; simp only [Act.put, List.setIfInBounds_toArray, List.set_cons_zero, List.set_cons_succ]) | (refine take_no (i := 1) rfl (by kernel_rfl) (by decide +kernel) (by decide +kernel) (fun _ _ _ h => h) (by rfl) (by assumption) ?_; simp only [Act.put, List.setIfInBounds_toArray, List.set_cons_zero, List.set_cons_succ]))
    refine take_this (i := 2) (by decide +kernel) rfl (by rfl) (fun K hK => ?_)
    go_simp
    have gK := KM_012.out.lt
    go_at_call 27
    refine (inv_ex a b _ _ 0 _ V_13.out U_13.out ZA.out ZB.out HN.out HN'.out H0T.out).mono ?_
    rintro e w14 ⟨V2, rfl, ht, b14⟩
    have V_14 := Lib.hid (V_13.out.below b14)
    clear V_13
    have U_14 := Lib.hid (U_13.out.below b14)
    clear U_13
    have V'_14 := Lib.hid (V'_13.out.below b14)
    clear V'_13
    have U'_14 := Lib.hid (U'_13.out.below b14)
    clear U'_13
    have X1_14 := Lib.hid (row_below X1_13.out b14)
    clear X1_13
    have X2_14 := Lib.hid (row_below X2_13.out b14)
    clear X2_13
    have RB_14 := Lib.hid (RB_13.out.trans (b14.mono RB_13.out.size))
    clear RB_13
    have KT_14 := Lib.hid (KT_13.out.below b14 KT_13.out.lt)
    clear KT_13
    have KO_14 := Lib.hid (KO_13.out.below b14 KO_13.out.lt)
    clear KO_13
    have KJ_14 := Lib.hid (KJ_13.out.below b14 KJ_13.out.lt)
    clear KJ_13
    have KM_14 := Lib.hid (KM_012.out.below b14 KM_012.out.lt)
    clear KM_012
    have B_14 := Lib.hid (B_13.out.trans (b14.mono B_13.out.size))
    clear B_13
    clear b14
    rw [okL_yes rfl, okL_yes rfl] at ht
    obtain ⟨x1, x2, rfl, q1, q2⟩ := ht
    obtain ⟨za, zc, rfl⟩ := row_slice q1
    obtain ⟨wa, wc, rfl⟩ := row_slice q2
    have Z1 := Lib.hid q1
    clear q1
    have Z2 := Lib.hid q2
    clear q2
    have neZ1 := Lib.hid (fun g (e : (.slice za b.length zc : Value).ownBlock = some g) => show g ≠ w12.heap.size from by have := (Z1.out.lt g e).1; omega)
    have neZ2 := Lib.hid (fun g (e : (.slice wa a.length wc : Value).ownBlock = some g) => show g ≠ w12.heap.size from by have := (Z2.out.lt g e).1; omega)
    clear gK
    try go_simp
    refine hK.out _ _ (HS12.out _ RB_14.out) (fun hHeld => ?_)
    clear hK
    try simp only [Act.put, List.setIfInBounds_toArray, List.set_cons_zero, List.set_cons_succ]
    try (first | (refine take_yes (i := 0) (v := ?_) rfl (by kernel_rfl) (by decide +kernel) (by decide +kernel) (fun _ _ _ h => h) (by rfl) ?_ (by assumption) ?_; rotate_left; intro w hSw; (try dsimp only at hSw); go_simp; with_reducible rfl; simp only [Act.put, List.setIfInBounds_toArray, List.set_cons_zero, List.set_cons_succ]) | (refine take_no (i := 0) rfl (by kernel_rfl) (by decide +kernel) (by decide +kernel) (fun _ _ _ h => h) (by rfl) (by assumption) ?_; simp only [Act.put, List.setIfInBounds_toArray, List.set_cons_zero, List.set_cons_succ]))
    try (first | (refine take_yes (i := 1) (v := ?_) rfl (by kernel_rfl) (by decide +kernel) (by decide +kernel) (fun _ _ _ h => h) (by rfl) ?_ (by assumption) ?_; rotate_left; intro w hSw; (try dsimp only at hSw); go_simp; with_reducible rfl; simp only [Act.put, List.setIfInBounds_toArray, List.set_cons_zero, List.set_cons_succ]) | (refine take_no (i := 1) rfl (by kernel_rfl) (by decide +kernel) (by decide +kernel) (fun _ _ _ h => h) (by rfl) (by assumption) ?_; simp only [Act.put, List.setIfInBounds_toArray, List.set_cons_zero, List.set_cons_succ]))
    refine take_this (i := 3) (by decide +kernel) rfl (by rfl) (fun K hK => ?_)
    go_simp
    have gK := KM_14.out.lt
    go_at_call 28
    refine (join_ex a b b a _ _ _ _ P2 Q2 _ V_14.out U_14.out (Lst.of_row Z1.out) (Lst.of_row Z2.out) ZA.out ZB.out ZB.out ZA.out HP2.out HQ2.out).mono ?_
    rintro e w15 ⟨V3, rfl, ht, b15⟩
    have V_15 := Lib.hid (V_14.out.below b15)
    clear V_14
    have U_15 := Lib.hid (U_14.out.below b15)
    clear U_14
    have V'_15 := Lib.hid (V'_14.out.below b15)
    clear V'_14
    have U'_15 := Lib.hid (U'_14.out.below b15)
    clear U'_14
    have X1_15 := Lib.hid (row_below X1_14.out b15)
    clear X1_14
    have X2_15 := Lib.hid (row_below X2_14.out b15)
    clear X2_14
    have RB_15 := Lib.hid (RB_14.out.trans (b15.mono RB_14.out.size))
    clear RB_14
    have Z1_15 := Lib.hid (row_below Z1.out b15)
    clear Z1
    have Z2_15 := Lib.hid (row_below Z2.out b15)
    clear Z2
    have KT_15 := Lib.hid (KT_14.out.below b15 KT_14.out.lt)
    clear KT_14
    have KO_15 := Lib.hid (KO_14.out.below b15 KO_14.out.lt)
    clear KO_14
    have KJ_15 := Lib.hid (KJ_14.out.below b15 KJ_14.out.lt)
    clear KJ_14
    have KM_15 := Lib.hid (KM_14.out.below b15 KM_14.out.lt)
    clear KM_14
    have B_15 := Lib.hid (B_14.out.trans (b15.mono B_14.out.size))
    clear B_14
    clear b15
    obtain ⟨x1, x2, rfl, q3, q4⟩ := ht
    obtain ⟨ya2, yc2, rfl⟩ := row_slice q3
    obtain ⟨yb2, yd2, rfl⟩ := row_slice q4
    have Y1 := Lib.hid q3
    clear q3
    have Y2 := Lib.hid q4
    clear q4
    have neY1 := Lib.hid (fun g (e : (.slice ya2 P2.length yc2 : Value).ownBlock = some g) => show g ≠ w12.heap.size from by have := (Y1.out.lt g e).1; omega)
    have neY2 := Lib.hid (fun g (e : (.slice yb2 Q2.length yd2 : Value).ownBlock = some g) => show g ≠ w12.heap.size from by have := (Y2.out.lt g e).1; omega)
    clear gK
    try go_simp
    refine hK.out _ _ (HS12.out _ RB_15.out) (fun hHeld => ?_)
    clear hK
    try simp only [Act.put, List.setIfInBounds_toArray, List.set_cons_zero, List.set_cons_succ]
    try (first | (refine take_yes (i := 0) (v := ?_) rfl (by kernel_rfl) (by decide +kernel) (by decide +kernel) (fun _ _ _ h => h) (by rfl) ?_ (by assumption) ?_; rotate_left; intro w hSw; (try dsimp only at hSw); go_simp; with_reducible rfl; simp only [Act.put, List.setIfInBounds_toArray, List.set_cons_zero, List.set_cons_succ]) | (refine take_no (i := 0) rfl (by kernel_rfl) (by decide +kernel) (by decide +kernel) (fun _ _ _ h => h) (by rfl) (by assumption) ?_; simp only [Act.put, List.setIfInBounds_toArray, List.set_cons_zero, List.set_cons_succ]))
    try (first | (refine take_yes (i := 1) (v := ?_) rfl (by kernel_rfl) (by decide +kernel) (by decide +kernel) (fun _ _ _ h => h) (by rfl) ?_ (by assumption) ?_; rotate_left; intro w hSw; (try dsimp only at hSw); go_simp; with_reducible rfl; simp only [Act.put, List.setIfInBounds_toArray, List.set_cons_zero, List.set_cons_succ]) | (refine take_no (i := 1) rfl (by kernel_rfl) (by decide +kernel) (by decide +kernel) (fun _ _ _ h => h) (by rfl) (by assumption) ?_; simp only [Act.put, List.setIfInBounds_toArray, List.set_cons_zero, List.set_cons_succ]))
    refine take_this (i := 5) (by decide +kernel) rfl (by rfl) (fun K hK => ?_)
    have f0 := KM_15.out.frozen 0
    have e0 : w15.cell? ⟨w12.heap.size, 0, none⟩ = some (.slice none 0 0) := KM_15.out.cell 0
    have f1 := KM_15.out.frozen 1
    have e1 : w15.cell? ⟨w12.heap.size, 1, none⟩ = some (.slice none 0 0) := KM_15.out.cell 1
    go_simp
    clear f0 e0 f1 e1
    have RB_16 := Lib.hid ((RB_15.out.setCell (p := ⟨w12.heap.size, 0, none⟩) (by show w11.heap.size ≤ w12.heap.size; omega) (.slice ya2 P2.length yc2)).setCell (p := ⟨w12.heap.size, 1, none⟩) (by show w11.heap.size ≤ w12.heap.size; omega) (.slice yb2 Q2.length yd2))
    have KM_16 := Lib.hid ((KM_15.out.set 0 (.slice ya2 P2.length yc2)).set 1 (.slice yb2 Q2.length yd2))
    have V_16 := Lib.hid (V_o12.out.below RB_16.out)
    have U_16 := Lib.hid (U_o12.out.below RB_16.out)
    have V'_16 := Lib.hid (V'_o12.out.below RB_16.out)
    have U'_16 := Lib.hid (U'_o12.out.below RB_16.out)
    have X1_16 := Lib.hid (row_below X1_o12.out RB_16.out)
    have X2_16 := Lib.hid (row_below X2_o12.out RB_16.out)
    have Z1_16 := Lib.hid (row_other (row_other Z1_15.out (p := ⟨w12.heap.size, 0, none⟩) neZ1.out (.slice ya2 P2.length yc2)) (p := ⟨w12.heap.size, 1, none⟩) neZ1.out (.slice yb2 Q2.length yd2))
    have Z2_16 := Lib.hid (row_other (row_other Z2_15.out (p := ⟨w12.heap.size, 0, none⟩) neZ2.out (.slice ya2 P2.length yc2)) (p := ⟨w12.heap.size, 1, none⟩) neZ2.out (.slice yb2 Q2.length yd2))
    have Y1_16 := Lib.hid (row_other (row_other Y1.out (p := ⟨w12.heap.size, 0, none⟩) neY1.out (.slice ya2 P2.length yc2)) (p := ⟨w12.heap.size, 1, none⟩) neY1.out (.slice yb2 Q2.length yd2))
    have Y2_16 := Lib.hid (row_other (row_other Y2.out (p := ⟨w12.heap.size, 0, none⟩) neY2.out (.slice ya2 P2.length yc2)) (p := ⟨w12.heap.size, 1, none⟩) neY2.out (.slice yb2 Q2.length yd2))
    have KT_16 := Lib.hid (KT_o12.out.below RB_16.out KT_o12.out.lt)
    have KO_16 := Lib.hid (KO_o12.out.below RB_16.out KO_o12.out.lt)
    have KJ_16 := Lib.hid (KJ_o12.out.below RB_16.out KJ_o12.out.lt)
    have B_16 := Lib.hid (B_o12.out.trans (RB_16.out.mono B_o12.out.size))
    clear V_15 U_15 V'_15 U'_15 X1_15 X2_15 RB_15 Z1_15 Z2_15 Y1 Y2 KT_15 KO_15 KJ_15 KM_15 B_15
    clear V_o12 U_o12 V'_o12 U'_o12 X1_o12 X2_o12 KT_o12 KO_o12 KJ_o12 B_o12 neZ1 neZ2 neY1 neY2 gB
    generalize ((w15.setCell ⟨w12.heap.size, 0, none⟩ (.slice ya2 P2.length yc2)).setCell ⟨w12.heap.size, 1, none⟩ (.slice yb2 Q2.length yd2)) = w16 at RB_16 V_16 U_16 V'_16 U'_16 X1_16 X2_16 Z1_16 Z2_16 Y1_16 Y2_16 KM_16 KT_16 KO_16 KJ_16 B_16 ⊢
    try go_simp
    refine hK.out _ _ (HS12.out _ RB_16.out) (fun hHeld => ?_)
    clear hK
    try simp only [Act.put, List.setIfInBounds_toArray, List.set_cons_zero, List.set_cons_succ]
    refine wpAnyH_done (by decide +kernel) ?_ _
    clear hHeld HS12 RB_16
    have lM_16 : w12.heap.size < w16.heap.size := KM_16.out.lt
    have cM_0_16 : w16.cell? ⟨w12.heap.size, 0, none⟩ = some (.slice ya2 P2.length yc2) := KM_16.out.cell 0
    have cM_1_16 : w16.cell? ⟨w12.heap.size, 1, none⟩ = some (.slice yb2 Q2.length yd2) := KM_16.out.cell 1
    go_wp2_with fail
    clear lM_16 cM_0_16 cM_1_16
    refine (ahead_ex2 P2 Q2 _ _ s s true _ (Lst.of_row Y1_16.out) (Lst.of_row Y2_16.out) ZP2.out ZQ2.out HS.out HJ2.out).mono ?_
    rintro e w17 ⟨rfl, b17⟩
    have V_17 := Lib.hid (V_16.out.below b17)
    clear V_16
    have U_17 := Lib.hid (U_16.out.below b17)
    clear U_16
    have V'_17 := Lib.hid (V'_16.out.below b17)
    clear V'_16
    have U'_17 := Lib.hid (U'_16.out.below b17)
    clear U'_16
    have X1_17 := Lib.hid (row_below X1_16.out b17)
    clear X1_16
    have X2_17 := Lib.hid (row_below X2_16.out b17)
    clear X2_16
    have Z1_17 := Lib.hid (row_below Z1_16.out b17)
    clear Z1_16
    have Z2_17 := Lib.hid (row_below Z2_16.out b17)
    clear Z2_16
    have Y1_17 := Lib.hid (row_below Y1_16.out b17)
    clear Y1_16
    have Y2_17 := Lib.hid (row_below Y2_16.out b17)
    clear Y2_16
    have KM_17 := Lib.hid (KM_16.out.below b17 KM_16.out.lt)
    clear KM_16
    have KT_17 := Lib.hid (KT_16.out.below b17 KT_16.out.lt)
    clear KT_16
    have KO_17 := Lib.hid (KO_16.out.below b17 KO_16.out.lt)
    clear KO_16
    have KJ_17 := Lib.hid (KJ_16.out.below b17 KJ_16.out.lt)
    clear KJ_16
    have B_17 := Lib.hid (B_16.out.trans (b17.mono B_16.out.size))
    clear B_16
    clear b17
    have lJ_17 : w7.heap.size < w17.heap.size := KJ_17.out.lt
    have cJ_0_17 : w17.cell? ⟨w7.heap.size, 0, none⟩ = some (.slice xa P.length xc) := KJ_17.out.cell 0
    have cJ_1_17 : w17.cell? ⟨w7.heap.size, 1, none⟩ = some (.slice ya Q.length yc) := KJ_17.out.cell 1
    go_wp2_with fail
    have hss : (s.toList == s.toList) = true := beq_self_eq_true _
    have hcc : (r2.toList == r2.toList) = true := beq_self_eq_true _
    clear lJ_17 cJ_0_17 cJ_1_17
    refine (check_ex P Q _ _ 0 _ (Lst.of_row X1_17.out) (Lst.of_row X2_17.out) ZP.out ZQ.out HJ0.out).mono ?_
    rintro e w18 ⟨rfl, b18⟩
    have V_18 := Lib.hid (V_17.out.below b18)
    clear V_17
    have U_18 := Lib.hid (U_17.out.below b18)
    clear U_17
    have V'_18 := Lib.hid (V'_17.out.below b18)
    clear V'_17
    have U'_18 := Lib.hid (U'_17.out.below b18)
    clear U'_17
    have X1_18 := Lib.hid (row_below X1_17.out b18)
    clear X1_17
    have X2_18 := Lib.hid (row_below X2_17.out b18)
    clear X2_17
    have Z1_18 := Lib.hid (row_below Z1_17.out b18)
    clear Z1_17
    have Z2_18 := Lib.hid (row_below Z2_17.out b18)
    clear Z2_17
    have Y1_18 := Lib.hid (row_below Y1_17.out b18)
    clear Y1_17
    have Y2_18 := Lib.hid (row_below Y2_17.out b18)
    clear Y2_17
    have KM_18 := Lib.hid (KM_17.out.below b18 KM_17.out.lt)
    clear KM_17
    have KT_18 := Lib.hid (KT_17.out.below b18 KT_17.out.lt)
    clear KT_17
    have KO_18 := Lib.hid (KO_17.out.below b18 KO_17.out.lt)
    clear KO_17
    have KJ_18 := Lib.hid (KJ_17.out.below b18 KJ_17.out.lt)
    clear KJ_17
    have B_18 := Lib.hid (B_17.out.trans (b18.mono B_17.out.size))
    clear B_17
    clear b18
    go_wp2
    go_ret
    exact ⟨rfl, B_18.out⟩

theorem joins_ft (a b a' b' : List ByteArray) (v u v' u' : Value) (s : ByteArray) (w : World) (hv : Lst stc w v a) (hu : Lst stc w u b) (hv' : Lst stc w v' a') (hu' : Lst stc w u' b') (hn : NilFine v) (hn' : NilFine u) (hs : s.size ≤ maxLen) (h1 : (fewB a 210 && fewB b 210) = true) (h2 : (fewB a' 210 && fewB b' 210) = true) (h0 : checkF a b = 0) (h0x : checkF a' b' = 0) (r r2 : ByteArray) (hr : aheadF a b s = (r, false)) (hr2 : aheadF a' b' r = (r2, true)) :
    Calls Try.prog 6 #[.agg #[v, u], .agg #[v', u'], .string s] w fun e w' => e = .returned (.bool true) ∧ Below w.heap.size w w' := by
  obtain ⟨f1, f2⟩ := Bool.and_eq_true_iff.1 h1
  obtain ⟨f3, f4⟩ := Bool.and_eq_true_iff.1 h2
  obtain ⟨la, za⟩ := few_of f1
  obtain ⟨lb, zb⟩ := few_of f2
  obtain ⟨la', za'⟩ := few_of f3
  obtain ⟨lb', zb'⟩ := few_of f4
  clear f1 f2 f3 f4
  have hrz := aheadF_size hr zb
  have h0t := check_turn.1 h0
  obtain ⟨P, hP⟩ : ∃ p, (joinR a b a' b').map (·.1) = p := ⟨_, rfl⟩
  obtain ⟨Q, hQ⟩ : ∃ p, (joinR a b a' b').map (·.2) = p := ⟨_, rfl⟩
  obtain ⟨P2, hP2⟩ : ∃ p, (joinR a b b a).map (·.1) = p := ⟨_, rfl⟩
  obtain ⟨Q2, hQ2⟩ : ∃ p, (joinR a b b a).map (·.2) = p := ⟨_, rfl⟩
  obtain ⟨zP, zQ⟩ := join_sizes hP hQ za zb'
  obtain ⟨zP2, zQ2⟩ := join_sizes hP2 hQ2 za za
  have hj0 := join_check h0 h0x hP hQ
  have hj := join_no h0 h0x hP hQ hr
  have hj2 := join_no h0 h0t hP2 hQ2 hr
  have H1 := Lib.hid h1
  have H2 := Lib.hid h2
  have ZA := Lib.hid za
  have ZB := Lib.hid zb
  have ZA' := Lib.hid za'
  have ZB' := Lib.hid zb'
  have H0 := Lib.hid h0
  have H0X := Lib.hid h0x
  have H0T := Lib.hid h0t
  have HR := Lib.hid hr
  have HR2 := Lib.hid hr2
  have HS := Lib.hid hs
  have HRZ := Lib.hid hrz
  have HN := Lib.hid hn
  have HN' := Lib.hid hn'
  have HP := Lib.hid hP
  have HQ := Lib.hid hQ
  have HP2 := Lib.hid hP2
  have HQ2 := Lib.hid hQ2
  have ZP := Lib.hid zP
  have ZQ := Lib.hid zQ
  have ZP2 := Lib.hid zP2
  have ZQ2 := Lib.hid zQ2
  have HJ0 := Lib.hid hj0
  have HJ := Lib.hid hj
  have HJ2 := Lib.hid hj2
  clear h1 h2 za zb za' zb' h0 h0x h0t hr hr2 hs hrz hn hn' hP hQ hP2 hQ2 zP zQ zP2 zQ2 hj0 hj hj2
  clear la lb la' lb'
  have HV := Lib.hid hv
  have HU := Lib.hid hu
  have HV' := Lib.hid hv'
  have HU' := Lib.hid hu'
  obtain ⟨va, vc, rfl⟩ := hv.slice
  obtain ⟨ua, uc, rfl⟩ := hu.slice
  obtain ⟨va', vc', rfl⟩ := hv'.slice
  obtain ⟨ua', uc', rfl⟩ := hu'.slice
  clear hv hu hv' hu'
  go_enter Try.func6, Try.ntmps6
  go_wp2_with fail
  have a1 : Below w.heap.size w ((w.alloc (.cells #[.slice va a.length vc, .slice ua b.length uc] 24)).alloc (.cells #[.slice va' a'.length vc', .slice ua' b'.length uc'] 24)) := (((Below.refl w.heap.size w).alloc (by first | exact Nat.le_refl _ | (simp only [World.size_alloc]; omega)) (.cells #[.slice va a.length vc, .slice ua b.length uc] 24)).alloc (by first | exact Nat.le_refl _ | (simp only [World.size_alloc]; omega)) (.cells #[.slice va' a'.length vc', .slice ua' b'.length uc'] 24))
  have T_new0 := ((Blk.new w #[.slice va a.length vc, .slice ua b.length uc] 24).alloc (.cells #[.slice va' a'.length vc', .slice ua' b'.length uc'] 24))
  have KT_00 := Lib.hid T_new0
  clear T_new0
  have O_new0 := (Blk.new (w.alloc (.cells #[.slice va a.length vc, .slice ua b.length uc] 24)) #[.slice va' a'.length vc', .slice ua' b'.length uc'] 24)
  rw [World.size_alloc] at O_new0
  have KO_00 := Lib.hid O_new0
  clear O_new0
  have V_1 := Lib.hid (HV.out.below a1)
  clear HV
  have U_1 := Lib.hid (HU.out.below a1)
  clear HU
  have V'_1 := Lib.hid (HV'.out.below a1)
  clear HV'
  have U'_1 := Lib.hid (HU'.out.below a1)
  clear HU'
  have B_1 := Lib.hid a1
  clear a1
  generalize ((w.alloc (.cells #[.slice va a.length vc, .slice ua b.length uc] 24)).alloc (.cells #[.slice va' a'.length vc', .slice ua' b'.length uc'] 24)) = w1 at V_1 U_1 V'_1 U'_1 KT_00 KO_00 B_1 ⊢
  refine (works_any _).mono ?_
  rintro e w2 ⟨rfl, b2⟩
  have V_2 := Lib.hid (V_1.out.below b2)
  clear V_1
  have U_2 := Lib.hid (U_1.out.below b2)
  clear U_1
  have V'_2 := Lib.hid (V'_1.out.below b2)
  clear V'_1
  have U'_2 := Lib.hid (U'_1.out.below b2)
  clear U'_1
  have KT_2 := Lib.hid (KT_00.out.below b2 KT_00.out.lt)
  clear KT_00
  have KO_2 := Lib.hid (KO_00.out.below b2 KO_00.out.lt)
  clear KO_00
  have B_2 := Lib.hid (B_1.out.trans (b2.mono B_1.out.size))
  clear B_1
  clear b2
  have lT_2 : w.heap.size < w2.heap.size := KT_2.out.lt
  have cT_0_2 : w2.cell? ⟨w.heap.size, 0, none⟩ = some (.slice va a.length vc) := KT_2.out.cell 0
  have cT_1_2 : w2.cell? ⟨w.heap.size, 1, none⟩ = some (.slice ua b.length uc) := KT_2.out.cell 1
  have lO_2 : w.heap.size + 1 < w2.heap.size := KO_2.out.lt
  have cO_0_2 : w2.cell? ⟨w.heap.size + 1, 0, none⟩ = some (.slice va' a'.length vc') := KO_2.out.cell 0
  have cO_1_2 : w2.cell? ⟨w.heap.size + 1, 1, none⟩ = some (.slice ua' b'.length uc') := KO_2.out.cell 1
  go_wp2_with fail
  clear lT_2 cT_0_2 cT_1_2 lO_2 cO_0_2 cO_1_2
  refine (few_ex a b _ _ true _ V_2.out U_2.out H1.out).mono ?_
  rintro e w3 ⟨rfl, b3⟩
  have V_3 := Lib.hid (V_2.out.below b3)
  clear V_2
  have U_3 := Lib.hid (U_2.out.below b3)
  clear U_2
  have V'_3 := Lib.hid (V'_2.out.below b3)
  clear V'_2
  have U'_3 := Lib.hid (U'_2.out.below b3)
  clear U'_2
  have KT_3 := Lib.hid (KT_2.out.below b3 KT_2.out.lt)
  clear KT_2
  have KO_3 := Lib.hid (KO_2.out.below b3 KO_2.out.lt)
  clear KO_2
  have B_3 := Lib.hid (B_2.out.trans (b3.mono B_2.out.size))
  clear B_2
  clear b3
  have lT_3 : w.heap.size < w3.heap.size := KT_3.out.lt
  have cT_0_3 : w3.cell? ⟨w.heap.size, 0, none⟩ = some (.slice va a.length vc) := KT_3.out.cell 0
  have cT_1_3 : w3.cell? ⟨w.heap.size, 1, none⟩ = some (.slice ua b.length uc) := KT_3.out.cell 1
  have lO_3 : w.heap.size + 1 < w3.heap.size := KO_3.out.lt
  have cO_0_3 : w3.cell? ⟨w.heap.size + 1, 0, none⟩ = some (.slice va' a'.length vc') := KO_3.out.cell 0
  have cO_1_3 : w3.cell? ⟨w.heap.size + 1, 1, none⟩ = some (.slice ua' b'.length uc') := KO_3.out.cell 1
  go_wp2_with fail
  clear lT_3 cT_0_3 cT_1_3 lO_3 cO_0_3 cO_1_3
  refine (few_ex a' b' _ _ true _ V'_3.out U'_3.out H2.out).mono ?_
  rintro e w4 ⟨rfl, b4⟩
  have V_4 := Lib.hid (V_3.out.below b4)
  clear V_3
  have U_4 := Lib.hid (U_3.out.below b4)
  clear U_3
  have V'_4 := Lib.hid (V'_3.out.below b4)
  clear V'_3
  have U'_4 := Lib.hid (U'_3.out.below b4)
  clear U'_3
  have KT_4 := Lib.hid (KT_3.out.below b4 KT_3.out.lt)
  clear KT_3
  have KO_4 := Lib.hid (KO_3.out.below b4 KO_3.out.lt)
  clear KO_3
  have B_4 := Lib.hid (B_3.out.trans (b4.mono B_3.out.size))
  clear B_3
  clear b4
  have lT_4 : w.heap.size < w4.heap.size := KT_4.out.lt
  have cT_0_4 : w4.cell? ⟨w.heap.size, 0, none⟩ = some (.slice va a.length vc) := KT_4.out.cell 0
  have cT_1_4 : w4.cell? ⟨w.heap.size, 1, none⟩ = some (.slice ua b.length uc) := KT_4.out.cell 1
  have lO_4 : w.heap.size + 1 < w4.heap.size := KO_4.out.lt
  have cO_0_4 : w4.cell? ⟨w.heap.size + 1, 0, none⟩ = some (.slice va' a'.length vc') := KO_4.out.cell 0
  have cO_1_4 : w4.cell? ⟨w.heap.size + 1, 1, none⟩ = some (.slice ua' b'.length uc') := KO_4.out.cell 1
  go_wp2_with fail
  clear lT_4 cT_0_4 cT_1_4 lO_4 cO_0_4 cO_1_4
  refine (check_ex a b _ _ 0 _ V_4.out U_4.out ZA.out ZB.out H0.out).mono ?_
  rintro e w5 ⟨rfl, b5⟩
  have V_5 := Lib.hid (V_4.out.below b5)
  clear V_4
  have U_5 := Lib.hid (U_4.out.below b5)
  clear U_4
  have V'_5 := Lib.hid (V'_4.out.below b5)
  clear V'_4
  have U'_5 := Lib.hid (U'_4.out.below b5)
  clear U'_4
  have KT_5 := Lib.hid (KT_4.out.below b5 KT_4.out.lt)
  clear KT_4
  have KO_5 := Lib.hid (KO_4.out.below b5 KO_4.out.lt)
  clear KO_4
  have B_5 := Lib.hid (B_4.out.trans (b5.mono B_4.out.size))
  clear B_4
  clear b5
  have lT_5 : w.heap.size < w5.heap.size := KT_5.out.lt
  have cT_0_5 : w5.cell? ⟨w.heap.size, 0, none⟩ = some (.slice va a.length vc) := KT_5.out.cell 0
  have cT_1_5 : w5.cell? ⟨w.heap.size, 1, none⟩ = some (.slice ua b.length uc) := KT_5.out.cell 1
  have lO_5 : w.heap.size + 1 < w5.heap.size := KO_5.out.lt
  have cO_0_5 : w5.cell? ⟨w.heap.size + 1, 0, none⟩ = some (.slice va' a'.length vc') := KO_5.out.cell 0
  have cO_1_5 : w5.cell? ⟨w.heap.size + 1, 1, none⟩ = some (.slice ua' b'.length uc') := KO_5.out.cell 1
  go_wp2_with fail
  clear lT_5 cT_0_5 cT_1_5 lO_5 cO_0_5 cO_1_5
  refine (check_ex a' b' _ _ 0 _ V'_5.out U'_5.out ZA'.out ZB'.out H0X.out).mono ?_
  rintro e w6 ⟨rfl, b6⟩
  have V_6 := Lib.hid (V_5.out.below b6)
  clear V_5
  have U_6 := Lib.hid (U_5.out.below b6)
  clear U_5
  have V'_6 := Lib.hid (V'_5.out.below b6)
  clear V'_5
  have U'_6 := Lib.hid (U'_5.out.below b6)
  clear U'_5
  have KT_6 := Lib.hid (KT_5.out.below b6 KT_5.out.lt)
  clear KT_5
  have KO_6 := Lib.hid (KO_5.out.below b6 KO_5.out.lt)
  clear KO_5
  have B_6 := Lib.hid (B_5.out.trans (b6.mono B_5.out.size))
  clear B_5
  clear b6
  have lT_6 : w.heap.size < w6.heap.size := KT_6.out.lt
  have cT_0_6 : w6.cell? ⟨w.heap.size, 0, none⟩ = some (.slice va a.length vc) := KT_6.out.cell 0
  have cT_1_6 : w6.cell? ⟨w.heap.size, 1, none⟩ = some (.slice ua b.length uc) := KT_6.out.cell 1
  have lO_6 : w.heap.size + 1 < w6.heap.size := KO_6.out.lt
  have cO_0_6 : w6.cell? ⟨w.heap.size + 1, 0, none⟩ = some (.slice va' a'.length vc') := KO_6.out.cell 0
  have cO_1_6 : w6.cell? ⟨w.heap.size + 1, 1, none⟩ = some (.slice ua' b'.length uc') := KO_6.out.cell 1
  go_wp2_with fail
  clear lT_6 cT_0_6 cT_1_6 lO_6 cO_0_6 cO_1_6
  refine (join_ex a b a' b' _ _ _ _ P Q _ V_6.out U_6.out V'_6.out U'_6.out ZA.out ZB.out ZA'.out ZB'.out HP.out HQ.out).mono ?_
  rintro e w7 ⟨V1, rfl, ht, b7⟩
  have V_7 := Lib.hid (V_6.out.below b7)
  clear V_6
  have U_7 := Lib.hid (U_6.out.below b7)
  clear U_6
  have V'_7 := Lib.hid (V'_6.out.below b7)
  clear V'_6
  have U'_7 := Lib.hid (U'_6.out.below b7)
  clear U'_6
  have KT_7 := Lib.hid (KT_6.out.below b7 KT_6.out.lt)
  clear KT_6
  have KO_7 := Lib.hid (KO_6.out.below b7 KO_6.out.lt)
  clear KO_6
  have B_7 := Lib.hid (B_6.out.trans (b7.mono B_6.out.size))
  clear B_6
  clear b7
  obtain ⟨x1, x2, rfl, r1, r2'⟩ := ht
  obtain ⟨xa, xc, rfl⟩ := row_slice r1
  obtain ⟨ya, yc, rfl⟩ := row_slice r2'
  have X1 := Lib.hid r1
  clear r1
  have X2 := Lib.hid r2'
  clear r2'
  have lT_7 : w.heap.size < w7.heap.size := KT_7.out.lt
  have cT_0_7 : w7.cell? ⟨w.heap.size, 0, none⟩ = some (.slice va a.length vc) := KT_7.out.cell 0
  have cT_1_7 : w7.cell? ⟨w.heap.size, 1, none⟩ = some (.slice ua b.length uc) := KT_7.out.cell 1
  have lO_7 : w.heap.size + 1 < w7.heap.size := KO_7.out.lt
  have cO_0_7 : w7.cell? ⟨w.heap.size + 1, 0, none⟩ = some (.slice va' a'.length vc') := KO_7.out.cell 0
  have cO_1_7 : w7.cell? ⟨w.heap.size + 1, 1, none⟩ = some (.slice ua' b'.length uc') := KO_7.out.cell 1
  go_wp2_with fail
  clear lT_7 cT_0_7 cT_1_7 lO_7 cO_0_7 cO_1_7
  have a2 : Below w7.heap.size w7 (w7.alloc (.cells #[.slice xa P.length xc, .slice ya Q.length yc] 24)) := ((Below.refl w7.heap.size w7).alloc (by first | exact Nat.le_refl _ | (simp only [World.size_alloc]; omega)) (.cells #[.slice xa P.length xc, .slice ya Q.length yc] 24))
  have J_new7 := (Blk.new w7 #[.slice xa P.length xc, .slice ya Q.length yc] 24)
  have KJ_07 := Lib.hid J_new7
  clear J_new7
  have V_8 := Lib.hid (V_7.out.below a2)
  clear V_7
  have U_8 := Lib.hid (U_7.out.below a2)
  clear U_7
  have V'_8 := Lib.hid (V'_7.out.below a2)
  clear V'_7
  have U'_8 := Lib.hid (U'_7.out.below a2)
  clear U'_7
  have X1_8 := Lib.hid (row_below X1.out a2)
  clear X1
  have X2_8 := Lib.hid (row_below X2.out a2)
  clear X2
  have KT_8 := Lib.hid (KT_7.out.below a2 KT_7.out.lt)
  clear KT_7
  have KO_8 := Lib.hid (KO_7.out.below a2 KO_7.out.lt)
  clear KO_7
  have B_8 := Lib.hid (B_7.out.trans (a2.mono B_7.out.size))
  clear B_7
  clear a2
  generalize (w7.alloc (.cells #[.slice xa P.length xc, .slice ya Q.length yc] 24)) = w8 at V_8 U_8 V'_8 U'_8 X1_8 X2_8 KT_8 KO_8 KJ_07 B_8 ⊢
  refine (ahead_ex2 a b _ _ s r false _ V_8.out U_8.out ZA.out ZB.out HS.out HR.out).mono ?_
  rintro e w9 ⟨rfl, b9⟩
  have V_9 := Lib.hid (V_8.out.below b9)
  clear V_8
  have U_9 := Lib.hid (U_8.out.below b9)
  clear U_8
  have V'_9 := Lib.hid (V'_8.out.below b9)
  clear V'_8
  have U'_9 := Lib.hid (U'_8.out.below b9)
  clear U'_8
  have X1_9 := Lib.hid (row_below X1_8.out b9)
  clear X1_8
  have X2_9 := Lib.hid (row_below X2_8.out b9)
  clear X2_8
  have KT_9 := Lib.hid (KT_8.out.below b9 KT_8.out.lt)
  clear KT_8
  have KO_9 := Lib.hid (KO_8.out.below b9 KO_8.out.lt)
  clear KO_8
  have KJ_9 := Lib.hid (KJ_07.out.below b9 KJ_07.out.lt)
  clear KJ_07
  have B_9 := Lib.hid (B_8.out.trans (b9.mono B_8.out.size))
  clear B_8
  clear b9
  have lT_9 : w.heap.size < w9.heap.size := KT_9.out.lt
  have cT_0_9 : w9.cell? ⟨w.heap.size, 0, none⟩ = some (.slice va a.length vc) := KT_9.out.cell 0
  have cT_1_9 : w9.cell? ⟨w.heap.size, 1, none⟩ = some (.slice ua b.length uc) := KT_9.out.cell 1
  have lO_9 : w.heap.size + 1 < w9.heap.size := KO_9.out.lt
  have cO_0_9 : w9.cell? ⟨w.heap.size + 1, 0, none⟩ = some (.slice va' a'.length vc') := KO_9.out.cell 0
  have cO_1_9 : w9.cell? ⟨w.heap.size + 1, 1, none⟩ = some (.slice ua' b'.length uc') := KO_9.out.cell 1
  go_wp2_with fail
  clear lT_9 cT_0_9 cT_1_9 lO_9 cO_0_9 cO_1_9
  refine (ahead_ex2 a' b' _ _ r r2 true _ V'_9.out U'_9.out ZA'.out ZB'.out HRZ.out HR2.out).mono ?_
  rintro e w10 ⟨rfl, b10⟩
  have V_10 := Lib.hid (V_9.out.below b10)
  clear V_9
  have U_10 := Lib.hid (U_9.out.below b10)
  clear U_9
  have V'_10 := Lib.hid (V'_9.out.below b10)
  clear V'_9
  have U'_10 := Lib.hid (U'_9.out.below b10)
  clear U'_9
  have X1_10 := Lib.hid (row_below X1_9.out b10)
  clear X1_9
  have X2_10 := Lib.hid (row_below X2_9.out b10)
  clear X2_9
  have KT_10 := Lib.hid (KT_9.out.below b10 KT_9.out.lt)
  clear KT_9
  have KO_10 := Lib.hid (KO_9.out.below b10 KO_9.out.lt)
  clear KO_9
  have KJ_10 := Lib.hid (KJ_9.out.below b10 KJ_9.out.lt)
  clear KJ_9
  have B_10 := Lib.hid (B_9.out.trans (b10.mono B_9.out.size))
  clear B_9
  clear b10
  have lJ_10 : w7.heap.size < w10.heap.size := KJ_10.out.lt
  have cJ_0_10 : w10.cell? ⟨w7.heap.size, 0, none⟩ = some (.slice xa P.length xc) := KJ_10.out.cell 0
  have cJ_1_10 : w10.cell? ⟨w7.heap.size, 1, none⟩ = some (.slice ya Q.length yc) := KJ_10.out.cell 1
  go_wp2_with fail
  clear lJ_10 cJ_0_10 cJ_1_10
  refine (ahead_ex2 P Q _ _ s ⟨#[]⟩ false _ (Lst.of_row X1_10.out) (Lst.of_row X2_10.out) ZP.out ZQ.out HS.out HJ.out).mono ?_
  rintro e w11 ⟨rfl, b11⟩
  have V_11 := Lib.hid (V_10.out.below b11)
  clear V_10
  have U_11 := Lib.hid (U_10.out.below b11)
  clear U_10
  have V'_11 := Lib.hid (V'_10.out.below b11)
  clear V'_10
  have U'_11 := Lib.hid (U'_10.out.below b11)
  clear U'_10
  have X1_11 := Lib.hid (row_below X1_10.out b11)
  clear X1_10
  have X2_11 := Lib.hid (row_below X2_10.out b11)
  clear X2_10
  have KT_11 := Lib.hid (KT_10.out.below b11 KT_10.out.lt)
  clear KT_10
  have KO_11 := Lib.hid (KO_10.out.below b11 KO_10.out.lt)
  clear KO_10
  have KJ_11 := Lib.hid (KJ_10.out.below b11 KJ_10.out.lt)
  clear KJ_10
  have B_11 := Lib.hid (B_10.out.trans (b11.mono B_10.out.size))
  clear B_10
  clear b11
  go_wp2_with fail
  have V_o12 := V_11
  have U_o12 := U_11
  have V'_o12 := V'_11
  have U'_o12 := U'_11
  have X1_o12 := X1_11
  have X2_o12 := X2_11
  have KT_o12 := KT_11
  have KO_o12 := KO_11
  have KJ_o12 := KJ_11
  have B_o12 := B_11
  have HS12 : Hid (∀ X : World, Below w11.heap.size w11 X → X.cell? ⟨w.heap.size, 0, none⟩ = some (.slice va a.length vc) ∧ X.cell? ⟨w.heap.size, 1, none⟩ = some (.slice ua b.length uc) ∧ Below w11.heap.size w11 X) := Lib.hid fun X h => ⟨(h.cell (p := ⟨w.heap.size, 0, none⟩) KT_11.out.lt).trans (KT_11.out.cell 0), (h.cell (p := ⟨w.heap.size, 1, none⟩) KT_11.out.lt).trans (KT_11.out.cell 1), h⟩
  refine wp_region_held_drew (S := fun X => X.cell? ⟨w.heap.size, 0, none⟩ = some (.slice va a.length vc) ∧ X.cell? ⟨w.heap.size, 1, none⟩ = some (.slice ua b.length uc) ∧ Below w11.heap.size w11 X) (by kernel_rfl) (HS12.out _ (Below.refl _ _).drew) (fun hHeld => ?_)
  have bd : Below w11.heap.size w11 w11.drew := (Below.refl _ _).drew
  have RB0 := Lib.hid bd
  have V_12 := Lib.hid (V_11.out.below bd)
  clear V_11
  have U_12 := Lib.hid (U_11.out.below bd)
  clear U_11
  have V'_12 := Lib.hid (V'_11.out.below bd)
  clear V'_11
  have U'_12 := Lib.hid (U'_11.out.below bd)
  clear U'_11
  have X1_12 := Lib.hid (row_below X1_11.out bd)
  clear X1_11
  have X2_12 := Lib.hid (row_below X2_11.out bd)
  clear X2_11
  have KT_12 := Lib.hid (KT_11.out.below bd KT_11.out.lt)
  clear KT_11
  have KO_12 := Lib.hid (KO_11.out.below bd KO_11.out.lt)
  clear KO_11
  have KJ_12 := Lib.hid (KJ_11.out.below bd KJ_11.out.lt)
  clear KJ_11
  have B_12 := Lib.hid (B_11.out.trans (bd.mono B_11.out.size))
  clear B_11
  clear bd
  generalize w11.drew = w12 at V_12 U_12 V'_12 U'_12 X1_12 X2_12 RB0 KT_12 KO_12 KJ_12 B_12 hHeld ⊢
  try (first | (refine take_yes (i := 0) (v := ?_) rfl (by kernel_rfl) (by decide +kernel) (by decide +kernel) (fun _ _ _ h => h) (by rfl) ?_ (by assumption) ?_; rotate_left; intro w hSw; (try dsimp only at hSw); go_simp; with_reducible rfl; simp only [Act.put, List.setIfInBounds_toArray, List.set_cons_zero, List.set_cons_succ]) | (refine take_no (i := 0) rfl (by kernel_rfl) (by decide +kernel) (by decide +kernel) (fun _ _ _ h => h) (by rfl) (by assumption) ?_; simp only [Act.put, List.setIfInBounds_toArray, List.set_cons_zero, List.set_cons_succ]))
  try (first | (refine take_yes (i := 1) (v := ?_) rfl (by kernel_rfl) (by decide +kernel) (by decide +kernel) (fun _ _ _ h => h) (by rfl) ?_ (by assumption) ?_; rotate_left; intro w hSw; (try dsimp only at hSw); go_simp; with_reducible rfl; simp only [Act.put, List.setIfInBounds_toArray, List.set_cons_zero, List.set_cons_succ]) | (refine take_no (i := 1) rfl (by kernel_rfl) (by decide +kernel) (by decide +kernel) (fun _ _ _ h => h) (by rfl) (by assumption) ?_; simp only [Act.put, List.setIfInBounds_toArray, List.set_cons_zero, List.set_cons_succ]))
  refine take_two (i := 2) (j := 4) (by decide +kernel) rfl rfl (by rfl) (by rfl) (fun K hK => ?_) (fun K hK => ?_)
  · go_simp
    go_at_call 27
    refine (inv_ex a b _ _ 0 _ V_12.out U_12.out ZA.out ZB.out HN.out HN'.out H0T.out).mono ?_
    rintro e w13 ⟨V2, rfl, ht, b13⟩
    have V_13 := Lib.hid (V_12.out.below b13)
    clear V_12
    have U_13 := Lib.hid (U_12.out.below b13)
    clear U_12
    have V'_13 := Lib.hid (V'_12.out.below b13)
    clear V'_12
    have U'_13 := Lib.hid (U'_12.out.below b13)
    clear U'_12
    have X1_13 := Lib.hid (row_below X1_12.out b13)
    clear X1_12
    have X2_13 := Lib.hid (row_below X2_12.out b13)
    clear X2_12
    have RB_13 := Lib.hid (RB0.out.trans (b13.mono RB0.out.size))
    clear RB0
    have KT_13 := Lib.hid (KT_12.out.below b13 KT_12.out.lt)
    clear KT_12
    have KO_13 := Lib.hid (KO_12.out.below b13 KO_12.out.lt)
    clear KO_12
    have KJ_13 := Lib.hid (KJ_12.out.below b13 KJ_12.out.lt)
    clear KJ_12
    have B_13 := Lib.hid (B_12.out.trans (b13.mono B_12.out.size))
    clear B_12
    clear b13
    rw [okL_yes rfl, okL_yes rfl] at ht
    obtain ⟨x1, x2, rfl, q1, q2⟩ := ht
    obtain ⟨za, zc, rfl⟩ := row_slice q1
    obtain ⟨wa, wc, rfl⟩ := row_slice q2
    have Z1 := Lib.hid q1
    clear q1
    have Z2 := Lib.hid q2
    clear q2
    try go_simp
    refine hK.out _ _ (HS12.out _ RB_13.out) (fun hHeld => ?_)
    clear hK
    try simp only [Act.put, List.setIfInBounds_toArray, List.set_cons_zero, List.set_cons_succ]
    try (first | (refine take_yes (i := 0) (v := ?_) rfl (by kernel_rfl) (by decide +kernel) (by decide +kernel) (fun _ _ _ h => h) (by rfl) ?_ (by assumption) ?_; rotate_left; intro w hSw; (try dsimp only at hSw); go_simp; with_reducible rfl; simp only [Act.put, List.setIfInBounds_toArray, List.set_cons_zero, List.set_cons_succ]) | (refine take_no (i := 0) rfl (by kernel_rfl) (by decide +kernel) (by decide +kernel) (fun _ _ _ h => h) (by rfl) (by assumption) ?_; simp only [Act.put, List.setIfInBounds_toArray, List.set_cons_zero, List.set_cons_succ]))
    try (first | (refine take_yes (i := 1) (v := ?_) rfl (by kernel_rfl) (by decide +kernel) (by decide +kernel) (fun _ _ _ h => h) (by rfl) ?_ (by assumption) ?_; rotate_left; intro w hSw; (try dsimp only at hSw); go_simp; with_reducible rfl; simp only [Act.put, List.setIfInBounds_toArray, List.set_cons_zero, List.set_cons_succ]) | (refine take_no (i := 1) rfl (by kernel_rfl) (by decide +kernel) (by decide +kernel) (fun _ _ _ h => h) (by rfl) (by assumption) ?_; simp only [Act.put, List.setIfInBounds_toArray, List.set_cons_zero, List.set_cons_succ]))
    refine take_two (i := 3) (j := 4) (by decide +kernel) rfl rfl (by rfl) (by rfl) (fun K hK => ?_) (fun K hK => ?_)
    · go_simp
      go_at_call 28
      refine (join_ex a b b a _ _ _ _ P2 Q2 _ V_13.out U_13.out (Lst.of_row Z1.out) (Lst.of_row Z2.out) ZA.out ZB.out ZB.out ZA.out HP2.out HQ2.out).mono ?_
      rintro e w14 ⟨V3, rfl, ht, b14⟩
      have V_14 := Lib.hid (V_13.out.below b14)
      clear V_13
      have U_14 := Lib.hid (U_13.out.below b14)
      clear U_13
      have V'_14 := Lib.hid (V'_13.out.below b14)
      clear V'_13
      have U'_14 := Lib.hid (U'_13.out.below b14)
      clear U'_13
      have X1_14 := Lib.hid (row_below X1_13.out b14)
      clear X1_13
      have X2_14 := Lib.hid (row_below X2_13.out b14)
      clear X2_13
      have RB_14 := Lib.hid (RB_13.out.trans (b14.mono RB_13.out.size))
      clear RB_13
      have Z1_14 := Lib.hid (row_below Z1.out b14)
      clear Z1
      have Z2_14 := Lib.hid (row_below Z2.out b14)
      clear Z2
      have KT_14 := Lib.hid (KT_13.out.below b14 KT_13.out.lt)
      clear KT_13
      have KO_14 := Lib.hid (KO_13.out.below b14 KO_13.out.lt)
      clear KO_13
      have KJ_14 := Lib.hid (KJ_13.out.below b14 KJ_13.out.lt)
      clear KJ_13
      have B_14 := Lib.hid (B_13.out.trans (b14.mono B_13.out.size))
      clear B_13
      clear b14
      obtain ⟨x1, x2, rfl, q3, q4⟩ := ht
      obtain ⟨ya2, yc2, rfl⟩ := row_slice q3
      obtain ⟨yb2, yd2, rfl⟩ := row_slice q4
      have Y1 := Lib.hid q3
      clear q3
      have Y2 := Lib.hid q4
      clear q4
      try go_simp
      refine hK.out _ _ (HS12.out _ RB_14.out) (fun hHeld => ?_)
      clear hK
      try simp only [Act.put, List.setIfInBounds_toArray, List.set_cons_zero, List.set_cons_succ]
      try (first | (refine take_yes (i := 0) (v := ?_) rfl (by kernel_rfl) (by decide +kernel) (by decide +kernel) (fun _ _ _ h => h) (by rfl) ?_ (by assumption) ?_; rotate_left; intro w hSw; (try dsimp only at hSw); go_simp; with_reducible rfl; simp only [Act.put, List.setIfInBounds_toArray, List.set_cons_zero, List.set_cons_succ]) | (refine take_no (i := 0) rfl (by kernel_rfl) (by decide +kernel) (by decide +kernel) (fun _ _ _ h => h) (by rfl) (by assumption) ?_; simp only [Act.put, List.setIfInBounds_toArray, List.set_cons_zero, List.set_cons_succ]))
      try (first | (refine take_yes (i := 1) (v := ?_) rfl (by kernel_rfl) (by decide +kernel) (by decide +kernel) (fun _ _ _ h => h) (by rfl) ?_ (by assumption) ?_; rotate_left; intro w hSw; (try dsimp only at hSw); go_simp; with_reducible rfl; simp only [Act.put, List.setIfInBounds_toArray, List.set_cons_zero, List.set_cons_succ]) | (refine take_no (i := 1) rfl (by kernel_rfl) (by decide +kernel) (by decide +kernel) (fun _ _ _ h => h) (by rfl) (by assumption) ?_; simp only [Act.put, List.setIfInBounds_toArray, List.set_cons_zero, List.set_cons_succ]))
      refine take_this (i := 4) (by decide +kernel) rfl (by rfl) (fun K hK => ?_)
      go_simp
      have gB := RB_14.out.size
      have neZ1 := Lib.hid (fun g (e : (.slice za b.length zc : Value).ownBlock = some g) => show g ≠ w14.heap.size from by have := (Z1_14.out.lt g e).2; omega)
      have neZ2 := Lib.hid (fun g (e : (.slice wa a.length wc : Value).ownBlock = some g) => show g ≠ w14.heap.size from by have := (Z2_14.out.lt g e).2; omega)
      have neY1 := Lib.hid (fun g (e : (.slice ya2 P2.length yc2 : Value).ownBlock = some g) => show g ≠ w14.heap.size from by have := (Y1.out.lt g e).2; omega)
      have neY2 := Lib.hid (fun g (e : (.slice yb2 Q2.length yd2 : Value).ownBlock = some g) => show g ≠ w14.heap.size from by have := (Y2.out.lt g e).2; omega)
      have a3 : Below w14.heap.size w14 (w14.alloc (.cells #[.slice none 0 0, .slice none 0 0] 24)) := ((Below.refl w14.heap.size w14).alloc (by first | exact Nat.le_refl _ | (simp only [World.size_alloc]; omega)) (.cells #[.slice none 0 0, .slice none 0 0] 24))
      have M_new14 := (Blk.new w14 #[.slice none 0 0, .slice none 0 0] 24)
      have KM_014 := Lib.hid M_new14
      clear M_new14
      have V_15 := Lib.hid (V_14.out.below a3)
      clear V_14
      have U_15 := Lib.hid (U_14.out.below a3)
      clear U_14
      have V'_15 := Lib.hid (V'_14.out.below a3)
      clear V'_14
      have U'_15 := Lib.hid (U'_14.out.below a3)
      clear U'_14
      have X1_15 := Lib.hid (row_below X1_14.out a3)
      clear X1_14
      have X2_15 := Lib.hid (row_below X2_14.out a3)
      clear X2_14
      have RB_15 := Lib.hid (RB_14.out.trans (a3.mono RB_14.out.size))
      clear RB_14
      have Z1_15 := Lib.hid (row_below Z1_14.out a3)
      clear Z1_14
      have Z2_15 := Lib.hid (row_below Z2_14.out a3)
      clear Z2_14
      have Y1_15 := Lib.hid (row_below Y1.out a3)
      clear Y1
      have Y2_15 := Lib.hid (row_below Y2.out a3)
      clear Y2
      have KT_15 := Lib.hid (KT_14.out.below a3 KT_14.out.lt)
      clear KT_14
      have KO_15 := Lib.hid (KO_14.out.below a3 KO_14.out.lt)
      clear KO_14
      have KJ_15 := Lib.hid (KJ_14.out.below a3 KJ_14.out.lt)
      clear KJ_14
      have B_15 := Lib.hid (B_14.out.trans (a3.mono B_14.out.size))
      clear B_14
      clear a3
      generalize (w14.alloc (.cells #[.slice none 0 0, .slice none 0 0] 24)) = w15 at V_15 U_15 V'_15 U'_15 X1_15 X2_15 RB_15 Z1_15 Z2_15 Y1_15 Y2_15 KT_15 KO_15 KJ_15 KM_014 B_15 ⊢
      try go_simp
      refine hK.out _ _ (HS12.out _ RB_15.out) (fun hHeld => ?_)
      clear hK
      try simp only [Act.put, List.setIfInBounds_toArray, List.set_cons_zero, List.set_cons_succ]
      try (first | (refine take_yes (i := 0) (v := ?_) rfl (by kernel_rfl) (by decide +kernel) (by decide +kernel) (fun _ _ _ h => h) (by rfl) ?_ (by assumption) ?_; rotate_left; intro w hSw; (try dsimp only at hSw); go_simp; with_reducible rfl; simp only [Act.put, List.setIfInBounds_toArray, List.set_cons_zero, List.set_cons_succ]) | (refine take_no (i := 0) rfl (by kernel_rfl) (by decide +kernel) (by decide +kernel) (fun _ _ _ h => h) (by rfl) (by assumption) ?_; simp only [Act.put, List.setIfInBounds_toArray, List.set_cons_zero, List.set_cons_succ]))
      try (first | (refine take_yes (i := 1) (v := ?_) rfl (by kernel_rfl) (by decide +kernel) (by decide +kernel) (fun _ _ _ h => h) (by rfl) ?_ (by assumption) ?_; rotate_left; intro w hSw; (try dsimp only at hSw); go_simp; with_reducible rfl; simp only [Act.put, List.setIfInBounds_toArray, List.set_cons_zero, List.set_cons_succ]) | (refine take_no (i := 1) rfl (by kernel_rfl) (by decide +kernel) (by decide +kernel) (fun _ _ _ h => h) (by rfl) (by assumption) ?_; simp only [Act.put, List.setIfInBounds_toArray, List.set_cons_zero, List.set_cons_succ]))
      refine take_this (i := 5) (by decide +kernel) rfl (by rfl) (fun K hK => ?_)
      have f0 := KM_014.out.frozen 0
      have e0 : w15.cell? ⟨w14.heap.size, 0, none⟩ = some (.slice none 0 0) := KM_014.out.cell 0
      have f1 := KM_014.out.frozen 1
      have e1 : w15.cell? ⟨w14.heap.size, 1, none⟩ = some (.slice none 0 0) := KM_014.out.cell 1
      go_simp
      clear f0 e0 f1 e1
      have RB_16 := Lib.hid ((RB_15.out.setCell (p := ⟨w14.heap.size, 0, none⟩) (by show w11.heap.size ≤ w14.heap.size; omega) (.slice ya2 P2.length yc2)).setCell (p := ⟨w14.heap.size, 1, none⟩) (by show w11.heap.size ≤ w14.heap.size; omega) (.slice yb2 Q2.length yd2))
      have KM_16 := Lib.hid ((KM_014.out.set 0 (.slice ya2 P2.length yc2)).set 1 (.slice yb2 Q2.length yd2))
      have V_16 := Lib.hid (V_o12.out.below RB_16.out)
      have U_16 := Lib.hid (U_o12.out.below RB_16.out)
      have V'_16 := Lib.hid (V'_o12.out.below RB_16.out)
      have U'_16 := Lib.hid (U'_o12.out.below RB_16.out)
      have X1_16 := Lib.hid (row_below X1_o12.out RB_16.out)
      have X2_16 := Lib.hid (row_below X2_o12.out RB_16.out)
      have Z1_16 := Lib.hid (row_other (row_other Z1_15.out (p := ⟨w14.heap.size, 0, none⟩) neZ1.out (.slice ya2 P2.length yc2)) (p := ⟨w14.heap.size, 1, none⟩) neZ1.out (.slice yb2 Q2.length yd2))
      have Z2_16 := Lib.hid (row_other (row_other Z2_15.out (p := ⟨w14.heap.size, 0, none⟩) neZ2.out (.slice ya2 P2.length yc2)) (p := ⟨w14.heap.size, 1, none⟩) neZ2.out (.slice yb2 Q2.length yd2))
      have Y1_16 := Lib.hid (row_other (row_other Y1_15.out (p := ⟨w14.heap.size, 0, none⟩) neY1.out (.slice ya2 P2.length yc2)) (p := ⟨w14.heap.size, 1, none⟩) neY1.out (.slice yb2 Q2.length yd2))
      have Y2_16 := Lib.hid (row_other (row_other Y2_15.out (p := ⟨w14.heap.size, 0, none⟩) neY2.out (.slice ya2 P2.length yc2)) (p := ⟨w14.heap.size, 1, none⟩) neY2.out (.slice yb2 Q2.length yd2))
      have KT_16 := Lib.hid (KT_o12.out.below RB_16.out KT_o12.out.lt)
      have KO_16 := Lib.hid (KO_o12.out.below RB_16.out KO_o12.out.lt)
      have KJ_16 := Lib.hid (KJ_o12.out.below RB_16.out KJ_o12.out.lt)
      have B_16 := Lib.hid (B_o12.out.trans (RB_16.out.mono B_o12.out.size))
      clear V_15 U_15 V'_15 U'_15 X1_15 X2_15 RB_15 Z1_15 Z2_15 Y1_15 Y2_15 KT_15 KO_15 KJ_15 KM_014 B_15
      clear V_o12 U_o12 V'_o12 U'_o12 X1_o12 X2_o12 KT_o12 KO_o12 KJ_o12 B_o12 neZ1 neZ2 neY1 neY2 gB
      generalize ((w15.setCell ⟨w14.heap.size, 0, none⟩ (.slice ya2 P2.length yc2)).setCell ⟨w14.heap.size, 1, none⟩ (.slice yb2 Q2.length yd2)) = w16 at RB_16 V_16 U_16 V'_16 U'_16 X1_16 X2_16 Z1_16 Z2_16 Y1_16 Y2_16 KM_16 KT_16 KO_16 KJ_16 B_16 ⊢
      try go_simp
      refine hK.out _ _ (HS12.out _ RB_16.out) (fun hHeld => ?_)
      clear hK
      try simp only [Act.put, List.setIfInBounds_toArray, List.set_cons_zero, List.set_cons_succ]
      refine wpAnyH_done (by decide +kernel) ?_ _
      clear hHeld HS12 RB_16
      have lM_16 : w14.heap.size < w16.heap.size := KM_16.out.lt
      have cM_0_16 : w16.cell? ⟨w14.heap.size, 0, none⟩ = some (.slice ya2 P2.length yc2) := KM_16.out.cell 0
      have cM_1_16 : w16.cell? ⟨w14.heap.size, 1, none⟩ = some (.slice yb2 Q2.length yd2) := KM_16.out.cell 1
      go_wp2_with fail
      clear lM_16 cM_0_16 cM_1_16
      refine (ahead_ex2 P2 Q2 _ _ s ⟨#[]⟩ false _ (Lst.of_row Y1_16.out) (Lst.of_row Y2_16.out) ZP2.out ZQ2.out HS.out HJ2.out).mono ?_
      rintro e w17 ⟨rfl, b17⟩
      have V_17 := Lib.hid (V_16.out.below b17)
      clear V_16
      have U_17 := Lib.hid (U_16.out.below b17)
      clear U_16
      have V'_17 := Lib.hid (V'_16.out.below b17)
      clear V'_16
      have U'_17 := Lib.hid (U'_16.out.below b17)
      clear U'_16
      have X1_17 := Lib.hid (row_below X1_16.out b17)
      clear X1_16
      have X2_17 := Lib.hid (row_below X2_16.out b17)
      clear X2_16
      have Z1_17 := Lib.hid (row_below Z1_16.out b17)
      clear Z1_16
      have Z2_17 := Lib.hid (row_below Z2_16.out b17)
      clear Z2_16
      have Y1_17 := Lib.hid (row_below Y1_16.out b17)
      clear Y1_16
      have Y2_17 := Lib.hid (row_below Y2_16.out b17)
      clear Y2_16
      have KM_17 := Lib.hid (KM_16.out.below b17 KM_16.out.lt)
      clear KM_16
      have KT_17 := Lib.hid (KT_16.out.below b17 KT_16.out.lt)
      clear KT_16
      have KO_17 := Lib.hid (KO_16.out.below b17 KO_16.out.lt)
      clear KO_16
      have KJ_17 := Lib.hid (KJ_16.out.below b17 KJ_16.out.lt)
      clear KJ_16
      have B_17 := Lib.hid (B_16.out.trans (b17.mono B_16.out.size))
      clear B_16
      clear b17
      have lJ_17 : w7.heap.size < w17.heap.size := KJ_17.out.lt
      have cJ_0_17 : w17.cell? ⟨w7.heap.size, 0, none⟩ = some (.slice xa P.length xc) := KJ_17.out.cell 0
      have cJ_1_17 : w17.cell? ⟨w7.heap.size, 1, none⟩ = some (.slice ya Q.length yc) := KJ_17.out.cell 1
      go_wp2_with fail
      have hss : (s.toList == s.toList) = true := beq_self_eq_true _
      have hcc : (r2.toList == r2.toList) = true := beq_self_eq_true _
      clear lJ_17 cJ_0_17 cJ_1_17
      refine (check_ex P Q _ _ 0 _ (Lst.of_row X1_17.out) (Lst.of_row X2_17.out) ZP.out ZQ.out HJ0.out).mono ?_
      rintro e w18 ⟨rfl, b18⟩
      have V_18 := Lib.hid (V_17.out.below b18)
      clear V_17
      have U_18 := Lib.hid (U_17.out.below b18)
      clear U_17
      have V'_18 := Lib.hid (V'_17.out.below b18)
      clear V'_17
      have U'_18 := Lib.hid (U'_17.out.below b18)
      clear U'_17
      have X1_18 := Lib.hid (row_below X1_17.out b18)
      clear X1_17
      have X2_18 := Lib.hid (row_below X2_17.out b18)
      clear X2_17
      have Z1_18 := Lib.hid (row_below Z1_17.out b18)
      clear Z1_17
      have Z2_18 := Lib.hid (row_below Z2_17.out b18)
      clear Z2_17
      have Y1_18 := Lib.hid (row_below Y1_17.out b18)
      clear Y1_17
      have Y2_18 := Lib.hid (row_below Y2_17.out b18)
      clear Y2_17
      have KM_18 := Lib.hid (KM_17.out.below b18 KM_17.out.lt)
      clear KM_17
      have KT_18 := Lib.hid (KT_17.out.below b18 KT_17.out.lt)
      clear KT_17
      have KO_18 := Lib.hid (KO_17.out.below b18 KO_17.out.lt)
      clear KO_17
      have KJ_18 := Lib.hid (KJ_17.out.below b18 KJ_17.out.lt)
      clear KJ_17
      have B_18 := Lib.hid (B_17.out.trans (b18.mono B_17.out.size))
      clear B_17
      clear b18
      go_wp2
      go_ret
      exact ⟨rfl, B_18.out⟩
    · go_simp
      have gB := RB_13.out.size
      have neZ1 := Lib.hid (fun g (e : (.slice za b.length zc : Value).ownBlock = some g) => show g ≠ w13.heap.size from by have := (Z1.out.lt g e).2; omega)
      have neZ2 := Lib.hid (fun g (e : (.slice wa a.length wc : Value).ownBlock = some g) => show g ≠ w13.heap.size from by have := (Z2.out.lt g e).2; omega)
      have a3 : Below w13.heap.size w13 (w13.alloc (.cells #[.slice none 0 0, .slice none 0 0] 24)) := ((Below.refl w13.heap.size w13).alloc (by first | exact Nat.le_refl _ | (simp only [World.size_alloc]; omega)) (.cells #[.slice none 0 0, .slice none 0 0] 24))
      have M_new13 := (Blk.new w13 #[.slice none 0 0, .slice none 0 0] 24)
      have KM_013 := Lib.hid M_new13
      clear M_new13
      have V_14 := Lib.hid (V_13.out.below a3)
      clear V_13
      have U_14 := Lib.hid (U_13.out.below a3)
      clear U_13
      have V'_14 := Lib.hid (V'_13.out.below a3)
      clear V'_13
      have U'_14 := Lib.hid (U'_13.out.below a3)
      clear U'_13
      have X1_14 := Lib.hid (row_below X1_13.out a3)
      clear X1_13
      have X2_14 := Lib.hid (row_below X2_13.out a3)
      clear X2_13
      have RB_14 := Lib.hid (RB_13.out.trans (a3.mono RB_13.out.size))
      clear RB_13
      have Z1_14 := Lib.hid (row_below Z1.out a3)
      clear Z1
      have Z2_14 := Lib.hid (row_below Z2.out a3)
      clear Z2
      have KT_14 := Lib.hid (KT_13.out.below a3 KT_13.out.lt)
      clear KT_13
      have KO_14 := Lib.hid (KO_13.out.below a3 KO_13.out.lt)
      clear KO_13
      have KJ_14 := Lib.hid (KJ_13.out.below a3 KJ_13.out.lt)
      clear KJ_13
      have B_14 := Lib.hid (B_13.out.trans (a3.mono B_13.out.size))
      clear B_13
      clear a3
      generalize (w13.alloc (.cells #[.slice none 0 0, .slice none 0 0] 24)) = w14 at V_14 U_14 V'_14 U'_14 X1_14 X2_14 RB_14 Z1_14 Z2_14 KT_14 KO_14 KJ_14 KM_013 B_14 ⊢
      try go_simp
      refine hK.out _ _ (HS12.out _ RB_14.out) (fun hHeld => ?_)
      clear hK
      try simp only [Act.put, List.setIfInBounds_toArray, List.set_cons_zero, List.set_cons_succ]
      try (first | (refine take_yes (i := 0) (v := ?_) rfl (by kernel_rfl) (by decide +kernel) (by decide +kernel) (fun _ _ _ h => h) (by rfl) ?_ (by assumption) ?_; rotate_left; intro w hSw; (try dsimp only at hSw); go_simp; with_reducible rfl; simp only [Act.put, List.setIfInBounds_toArray, List.set_cons_zero, List.set_cons_succ]) | (refine take_no (i := 0) rfl (by kernel_rfl) (by decide +kernel) (by decide +kernel) (fun _ _ _ h => h) (by rfl) (by assumption) ?_; simp only [Act.put, List.setIfInBounds_toArray, List.set_cons_zero, List.set_cons_succ]))
      try (first | (refine take_yes (i := 1) (v := ?_) rfl (by kernel_rfl) (by decide +kernel) (by decide +kernel) (fun _ _ _ h => h) (by rfl) ?_ (by assumption) ?_; rotate_left; intro w hSw; (try dsimp only at hSw); go_simp; with_reducible rfl; simp only [Act.put, List.setIfInBounds_toArray, List.set_cons_zero, List.set_cons_succ]) | (refine take_no (i := 1) rfl (by kernel_rfl) (by decide +kernel) (by decide +kernel) (fun _ _ _ h => h) (by rfl) (by assumption) ?_; simp only [Act.put, List.setIfInBounds_toArray, List.set_cons_zero, List.set_cons_succ]))
      refine take_this (i := 3) (by decide +kernel) rfl (by rfl) (fun K hK => ?_)
      go_simp
      have gK := KM_013.out.lt
      go_at_call 28
      refine (join_ex a b b a _ _ _ _ P2 Q2 _ V_14.out U_14.out (Lst.of_row Z1_14.out) (Lst.of_row Z2_14.out) ZA.out ZB.out ZB.out ZA.out HP2.out HQ2.out).mono ?_
      rintro e w15 ⟨V3, rfl, ht, b15⟩
      have V_15 := Lib.hid (V_14.out.below b15)
      clear V_14
      have U_15 := Lib.hid (U_14.out.below b15)
      clear U_14
      have V'_15 := Lib.hid (V'_14.out.below b15)
      clear V'_14
      have U'_15 := Lib.hid (U'_14.out.below b15)
      clear U'_14
      have X1_15 := Lib.hid (row_below X1_14.out b15)
      clear X1_14
      have X2_15 := Lib.hid (row_below X2_14.out b15)
      clear X2_14
      have RB_15 := Lib.hid (RB_14.out.trans (b15.mono RB_14.out.size))
      clear RB_14
      have Z1_15 := Lib.hid (row_below Z1_14.out b15)
      clear Z1_14
      have Z2_15 := Lib.hid (row_below Z2_14.out b15)
      clear Z2_14
      have KT_15 := Lib.hid (KT_14.out.below b15 KT_14.out.lt)
      clear KT_14
      have KO_15 := Lib.hid (KO_14.out.below b15 KO_14.out.lt)
      clear KO_14
      have KJ_15 := Lib.hid (KJ_14.out.below b15 KJ_14.out.lt)
      clear KJ_14
      have KM_15 := Lib.hid (KM_013.out.below b15 KM_013.out.lt)
      clear KM_013
      have B_15 := Lib.hid (B_14.out.trans (b15.mono B_14.out.size))
      clear B_14
      clear b15
      obtain ⟨x1, x2, rfl, q3, q4⟩ := ht
      obtain ⟨ya2, yc2, rfl⟩ := row_slice q3
      obtain ⟨yb2, yd2, rfl⟩ := row_slice q4
      have Y1 := Lib.hid q3
      clear q3
      have Y2 := Lib.hid q4
      clear q4
      have neY1 := Lib.hid (fun g (e : (.slice ya2 P2.length yc2 : Value).ownBlock = some g) => show g ≠ w13.heap.size from by have := (Y1.out.lt g e).1; omega)
      have neY2 := Lib.hid (fun g (e : (.slice yb2 Q2.length yd2 : Value).ownBlock = some g) => show g ≠ w13.heap.size from by have := (Y2.out.lt g e).1; omega)
      clear gK
      try go_simp
      refine hK.out _ _ (HS12.out _ RB_15.out) (fun hHeld => ?_)
      clear hK
      try simp only [Act.put, List.setIfInBounds_toArray, List.set_cons_zero, List.set_cons_succ]
      try (first | (refine take_yes (i := 0) (v := ?_) rfl (by kernel_rfl) (by decide +kernel) (by decide +kernel) (fun _ _ _ h => h) (by rfl) ?_ (by assumption) ?_; rotate_left; intro w hSw; (try dsimp only at hSw); go_simp; with_reducible rfl; simp only [Act.put, List.setIfInBounds_toArray, List.set_cons_zero, List.set_cons_succ]) | (refine take_no (i := 0) rfl (by kernel_rfl) (by decide +kernel) (by decide +kernel) (fun _ _ _ h => h) (by rfl) (by assumption) ?_; simp only [Act.put, List.setIfInBounds_toArray, List.set_cons_zero, List.set_cons_succ]))
      try (first | (refine take_yes (i := 1) (v := ?_) rfl (by kernel_rfl) (by decide +kernel) (by decide +kernel) (fun _ _ _ h => h) (by rfl) ?_ (by assumption) ?_; rotate_left; intro w hSw; (try dsimp only at hSw); go_simp; with_reducible rfl; simp only [Act.put, List.setIfInBounds_toArray, List.set_cons_zero, List.set_cons_succ]) | (refine take_no (i := 1) rfl (by kernel_rfl) (by decide +kernel) (by decide +kernel) (fun _ _ _ h => h) (by rfl) (by assumption) ?_; simp only [Act.put, List.setIfInBounds_toArray, List.set_cons_zero, List.set_cons_succ]))
      refine take_this (i := 5) (by decide +kernel) rfl (by rfl) (fun K hK => ?_)
      have f0 := KM_15.out.frozen 0
      have e0 : w15.cell? ⟨w13.heap.size, 0, none⟩ = some (.slice none 0 0) := KM_15.out.cell 0
      have f1 := KM_15.out.frozen 1
      have e1 : w15.cell? ⟨w13.heap.size, 1, none⟩ = some (.slice none 0 0) := KM_15.out.cell 1
      go_simp
      clear f0 e0 f1 e1
      have RB_16 := Lib.hid ((RB_15.out.setCell (p := ⟨w13.heap.size, 0, none⟩) (by show w11.heap.size ≤ w13.heap.size; omega) (.slice ya2 P2.length yc2)).setCell (p := ⟨w13.heap.size, 1, none⟩) (by show w11.heap.size ≤ w13.heap.size; omega) (.slice yb2 Q2.length yd2))
      have KM_16 := Lib.hid ((KM_15.out.set 0 (.slice ya2 P2.length yc2)).set 1 (.slice yb2 Q2.length yd2))
      have V_16 := Lib.hid (V_o12.out.below RB_16.out)
      have U_16 := Lib.hid (U_o12.out.below RB_16.out)
      have V'_16 := Lib.hid (V'_o12.out.below RB_16.out)
      have U'_16 := Lib.hid (U'_o12.out.below RB_16.out)
      have X1_16 := Lib.hid (row_below X1_o12.out RB_16.out)
      have X2_16 := Lib.hid (row_below X2_o12.out RB_16.out)
      have Z1_16 := Lib.hid (row_other (row_other Z1_15.out (p := ⟨w13.heap.size, 0, none⟩) neZ1.out (.slice ya2 P2.length yc2)) (p := ⟨w13.heap.size, 1, none⟩) neZ1.out (.slice yb2 Q2.length yd2))
      have Z2_16 := Lib.hid (row_other (row_other Z2_15.out (p := ⟨w13.heap.size, 0, none⟩) neZ2.out (.slice ya2 P2.length yc2)) (p := ⟨w13.heap.size, 1, none⟩) neZ2.out (.slice yb2 Q2.length yd2))
      have Y1_16 := Lib.hid (row_other (row_other Y1.out (p := ⟨w13.heap.size, 0, none⟩) neY1.out (.slice ya2 P2.length yc2)) (p := ⟨w13.heap.size, 1, none⟩) neY1.out (.slice yb2 Q2.length yd2))
      have Y2_16 := Lib.hid (row_other (row_other Y2.out (p := ⟨w13.heap.size, 0, none⟩) neY2.out (.slice ya2 P2.length yc2)) (p := ⟨w13.heap.size, 1, none⟩) neY2.out (.slice yb2 Q2.length yd2))
      have KT_16 := Lib.hid (KT_o12.out.below RB_16.out KT_o12.out.lt)
      have KO_16 := Lib.hid (KO_o12.out.below RB_16.out KO_o12.out.lt)
      have KJ_16 := Lib.hid (KJ_o12.out.below RB_16.out KJ_o12.out.lt)
      have B_16 := Lib.hid (B_o12.out.trans (RB_16.out.mono B_o12.out.size))
      clear V_15 U_15 V'_15 U'_15 X1_15 X2_15 RB_15 Z1_15 Z2_15 Y1 Y2 KT_15 KO_15 KJ_15 KM_15 B_15
      clear V_o12 U_o12 V'_o12 U'_o12 X1_o12 X2_o12 KT_o12 KO_o12 KJ_o12 B_o12 neZ1 neZ2 neY1 neY2 gB
      generalize ((w15.setCell ⟨w13.heap.size, 0, none⟩ (.slice ya2 P2.length yc2)).setCell ⟨w13.heap.size, 1, none⟩ (.slice yb2 Q2.length yd2)) = w16 at RB_16 V_16 U_16 V'_16 U'_16 X1_16 X2_16 Z1_16 Z2_16 Y1_16 Y2_16 KM_16 KT_16 KO_16 KJ_16 B_16 ⊢
      try go_simp
      refine hK.out _ _ (HS12.out _ RB_16.out) (fun hHeld => ?_)
      clear hK
      try simp only [Act.put, List.setIfInBounds_toArray, List.set_cons_zero, List.set_cons_succ]
      refine wpAnyH_done (by decide +kernel) ?_ _
      clear hHeld HS12 RB_16
      have lM_16 : w13.heap.size < w16.heap.size := KM_16.out.lt
      have cM_0_16 : w16.cell? ⟨w13.heap.size, 0, none⟩ = some (.slice ya2 P2.length yc2) := KM_16.out.cell 0
      have cM_1_16 : w16.cell? ⟨w13.heap.size, 1, none⟩ = some (.slice yb2 Q2.length yd2) := KM_16.out.cell 1
      go_wp2_with fail
      clear lM_16 cM_0_16 cM_1_16
      refine (ahead_ex2 P2 Q2 _ _ s ⟨#[]⟩ false _ (Lst.of_row Y1_16.out) (Lst.of_row Y2_16.out) ZP2.out ZQ2.out HS.out HJ2.out).mono ?_
      rintro e w17 ⟨rfl, b17⟩
      have V_17 := Lib.hid (V_16.out.below b17)
      clear V_16
      have U_17 := Lib.hid (U_16.out.below b17)
      clear U_16
      have V'_17 := Lib.hid (V'_16.out.below b17)
      clear V'_16
      have U'_17 := Lib.hid (U'_16.out.below b17)
      clear U'_16
      have X1_17 := Lib.hid (row_below X1_16.out b17)
      clear X1_16
      have X2_17 := Lib.hid (row_below X2_16.out b17)
      clear X2_16
      have Z1_17 := Lib.hid (row_below Z1_16.out b17)
      clear Z1_16
      have Z2_17 := Lib.hid (row_below Z2_16.out b17)
      clear Z2_16
      have Y1_17 := Lib.hid (row_below Y1_16.out b17)
      clear Y1_16
      have Y2_17 := Lib.hid (row_below Y2_16.out b17)
      clear Y2_16
      have KM_17 := Lib.hid (KM_16.out.below b17 KM_16.out.lt)
      clear KM_16
      have KT_17 := Lib.hid (KT_16.out.below b17 KT_16.out.lt)
      clear KT_16
      have KO_17 := Lib.hid (KO_16.out.below b17 KO_16.out.lt)
      clear KO_16
      have KJ_17 := Lib.hid (KJ_16.out.below b17 KJ_16.out.lt)
      clear KJ_16
      have B_17 := Lib.hid (B_16.out.trans (b17.mono B_16.out.size))
      clear B_16
      clear b17
      have lJ_17 : w7.heap.size < w17.heap.size := KJ_17.out.lt
      have cJ_0_17 : w17.cell? ⟨w7.heap.size, 0, none⟩ = some (.slice xa P.length xc) := KJ_17.out.cell 0
      have cJ_1_17 : w17.cell? ⟨w7.heap.size, 1, none⟩ = some (.slice ya Q.length yc) := KJ_17.out.cell 1
      go_wp2_with fail
      have hss : (s.toList == s.toList) = true := beq_self_eq_true _
      have hcc : (r2.toList == r2.toList) = true := beq_self_eq_true _
      clear lJ_17 cJ_0_17 cJ_1_17
      refine (check_ex P Q _ _ 0 _ (Lst.of_row X1_17.out) (Lst.of_row X2_17.out) ZP.out ZQ.out HJ0.out).mono ?_
      rintro e w18 ⟨rfl, b18⟩
      have V_18 := Lib.hid (V_17.out.below b18)
      clear V_17
      have U_18 := Lib.hid (U_17.out.below b18)
      clear U_17
      have V'_18 := Lib.hid (V'_17.out.below b18)
      clear V'_17
      have U'_18 := Lib.hid (U'_17.out.below b18)
      clear U'_17
      have X1_18 := Lib.hid (row_below X1_17.out b18)
      clear X1_17
      have X2_18 := Lib.hid (row_below X2_17.out b18)
      clear X2_17
      have Z1_18 := Lib.hid (row_below Z1_17.out b18)
      clear Z1_17
      have Z2_18 := Lib.hid (row_below Z2_17.out b18)
      clear Z2_17
      have Y1_18 := Lib.hid (row_below Y1_17.out b18)
      clear Y1_17
      have Y2_18 := Lib.hid (row_below Y2_17.out b18)
      clear Y2_17
      have KM_18 := Lib.hid (KM_17.out.below b18 KM_17.out.lt)
      clear KM_17
      have KT_18 := Lib.hid (KT_17.out.below b18 KT_17.out.lt)
      clear KT_17
      have KO_18 := Lib.hid (KO_17.out.below b18 KO_17.out.lt)
      clear KO_17
      have KJ_18 := Lib.hid (KJ_17.out.below b18 KJ_17.out.lt)
      clear KJ_17
      have B_18 := Lib.hid (B_17.out.trans (b18.mono B_17.out.size))
      clear B_17
      clear b18
      go_wp2
      go_ret
      exact ⟨rfl, B_18.out⟩
  · go_simp
    have gB := RB0.out.size
    have a3 : Below w12.heap.size w12 (w12.alloc (.cells #[.slice none 0 0, .slice none 0 0] 24)) := ((Below.refl w12.heap.size w12).alloc (by first | exact Nat.le_refl _ | (simp only [World.size_alloc]; omega)) (.cells #[.slice none 0 0, .slice none 0 0] 24))
    have M_new12 := (Blk.new w12 #[.slice none 0 0, .slice none 0 0] 24)
    have KM_012 := Lib.hid M_new12
    clear M_new12
    have V_13 := Lib.hid (V_12.out.below a3)
    clear V_12
    have U_13 := Lib.hid (U_12.out.below a3)
    clear U_12
    have V'_13 := Lib.hid (V'_12.out.below a3)
    clear V'_12
    have U'_13 := Lib.hid (U'_12.out.below a3)
    clear U'_12
    have X1_13 := Lib.hid (row_below X1_12.out a3)
    clear X1_12
    have X2_13 := Lib.hid (row_below X2_12.out a3)
    clear X2_12
    have RB_13 := Lib.hid (RB0.out.trans (a3.mono RB0.out.size))
    clear RB0
    have KT_13 := Lib.hid (KT_12.out.below a3 KT_12.out.lt)
    clear KT_12
    have KO_13 := Lib.hid (KO_12.out.below a3 KO_12.out.lt)
    clear KO_12
    have KJ_13 := Lib.hid (KJ_12.out.below a3 KJ_12.out.lt)
    clear KJ_12
    have B_13 := Lib.hid (B_12.out.trans (a3.mono B_12.out.size))
    clear B_12
    clear a3
    generalize (w12.alloc (.cells #[.slice none 0 0, .slice none 0 0] 24)) = w13 at V_13 U_13 V'_13 U'_13 X1_13 X2_13 RB_13 KT_13 KO_13 KJ_13 KM_012 B_13 ⊢
    try go_simp
    refine hK.out _ _ (HS12.out _ RB_13.out) (fun hHeld => ?_)
    clear hK
    try simp only [Act.put, List.setIfInBounds_toArray, List.set_cons_zero, List.set_cons_succ]
    try (first | (refine take_yes (i := 0) (v := ?_) rfl (by kernel_rfl) (by decide +kernel) (by decide +kernel) (fun _ _ _ h => h) (by rfl) ?_ (by assumption) ?_; rotate_left; intro w hSw; (try dsimp only at hSw); go_simp; with_reducible rfl; simp only [Act.put, List.setIfInBounds_toArray, List.set_cons_zero, List.set_cons_succ]) | (refine take_no (i := 0) rfl (by kernel_rfl) (by decide +kernel) (by decide +kernel) (fun _ _ _ h => h) (by rfl) (by assumption) ?_; simp only [Act.put, List.setIfInBounds_toArray, List.set_cons_zero, List.set_cons_succ]))
    try (first | (refine take_yes (i := 1) (v := ?_) rfl (by kernel_rfl) (by decide +kernel) (by decide +kernel) (fun _ _ _ h => h) (by rfl) ?_ (by assumption) ?_; rotate_left; intro w hSw; (try dsimp only at hSw); go_simp; with_reducible rfl; simp only [Act.put, List.setIfInBounds_toArray, List.set_cons_zero, List.set_cons_succ]) | (refine take_no (i := 1) rfl (by kernel_rfl) (by decide +kernel) (by decide +kernel) (fun _ _ _ h => h) (by rfl) (by assumption) ?_; simp only [Act.put, List.setIfInBounds_toArray, List.set_cons_zero, List.set_cons_succ]))
    refine take_this (i := 2) (by decide +kernel) rfl (by rfl) (fun K hK => ?_)
    go_simp
    have gK := KM_012.out.lt
    go_at_call 27
    refine (inv_ex a b _ _ 0 _ V_13.out U_13.out ZA.out ZB.out HN.out HN'.out H0T.out).mono ?_
    rintro e w14 ⟨V2, rfl, ht, b14⟩
    have V_14 := Lib.hid (V_13.out.below b14)
    clear V_13
    have U_14 := Lib.hid (U_13.out.below b14)
    clear U_13
    have V'_14 := Lib.hid (V'_13.out.below b14)
    clear V'_13
    have U'_14 := Lib.hid (U'_13.out.below b14)
    clear U'_13
    have X1_14 := Lib.hid (row_below X1_13.out b14)
    clear X1_13
    have X2_14 := Lib.hid (row_below X2_13.out b14)
    clear X2_13
    have RB_14 := Lib.hid (RB_13.out.trans (b14.mono RB_13.out.size))
    clear RB_13
    have KT_14 := Lib.hid (KT_13.out.below b14 KT_13.out.lt)
    clear KT_13
    have KO_14 := Lib.hid (KO_13.out.below b14 KO_13.out.lt)
    clear KO_13
    have KJ_14 := Lib.hid (KJ_13.out.below b14 KJ_13.out.lt)
    clear KJ_13
    have KM_14 := Lib.hid (KM_012.out.below b14 KM_012.out.lt)
    clear KM_012
    have B_14 := Lib.hid (B_13.out.trans (b14.mono B_13.out.size))
    clear B_13
    clear b14
    rw [okL_yes rfl, okL_yes rfl] at ht
    obtain ⟨x1, x2, rfl, q1, q2⟩ := ht
    obtain ⟨za, zc, rfl⟩ := row_slice q1
    obtain ⟨wa, wc, rfl⟩ := row_slice q2
    have Z1 := Lib.hid q1
    clear q1
    have Z2 := Lib.hid q2
    clear q2
    have neZ1 := Lib.hid (fun g (e : (.slice za b.length zc : Value).ownBlock = some g) => show g ≠ w12.heap.size from by have := (Z1.out.lt g e).1; omega)
    have neZ2 := Lib.hid (fun g (e : (.slice wa a.length wc : Value).ownBlock = some g) => show g ≠ w12.heap.size from by have := (Z2.out.lt g e).1; omega)
    clear gK
    try go_simp
    refine hK.out _ _ (HS12.out _ RB_14.out) (fun hHeld => ?_)
    clear hK
    try simp only [Act.put, List.setIfInBounds_toArray, List.set_cons_zero, List.set_cons_succ]
    try (first | (refine take_yes (i := 0) (v := ?_) rfl (by kernel_rfl) (by decide +kernel) (by decide +kernel) (fun _ _ _ h => h) (by rfl) ?_ (by assumption) ?_; rotate_left; intro w hSw; (try dsimp only at hSw); go_simp; with_reducible rfl; simp only [Act.put, List.setIfInBounds_toArray, List.set_cons_zero, List.set_cons_succ]) | (refine take_no (i := 0) rfl (by kernel_rfl) (by decide +kernel) (by decide +kernel) (fun _ _ _ h => h) (by rfl) (by assumption) ?_; simp only [Act.put, List.setIfInBounds_toArray, List.set_cons_zero, List.set_cons_succ]))
    try (first | (refine take_yes (i := 1) (v := ?_) rfl (by kernel_rfl) (by decide +kernel) (by decide +kernel) (fun _ _ _ h => h) (by rfl) ?_ (by assumption) ?_; rotate_left; intro w hSw; (try dsimp only at hSw); go_simp; with_reducible rfl; simp only [Act.put, List.setIfInBounds_toArray, List.set_cons_zero, List.set_cons_succ]) | (refine take_no (i := 1) rfl (by kernel_rfl) (by decide +kernel) (by decide +kernel) (fun _ _ _ h => h) (by rfl) (by assumption) ?_; simp only [Act.put, List.setIfInBounds_toArray, List.set_cons_zero, List.set_cons_succ]))
    refine take_this (i := 3) (by decide +kernel) rfl (by rfl) (fun K hK => ?_)
    go_simp
    have gK := KM_14.out.lt
    go_at_call 28
    refine (join_ex a b b a _ _ _ _ P2 Q2 _ V_14.out U_14.out (Lst.of_row Z1.out) (Lst.of_row Z2.out) ZA.out ZB.out ZB.out ZA.out HP2.out HQ2.out).mono ?_
    rintro e w15 ⟨V3, rfl, ht, b15⟩
    have V_15 := Lib.hid (V_14.out.below b15)
    clear V_14
    have U_15 := Lib.hid (U_14.out.below b15)
    clear U_14
    have V'_15 := Lib.hid (V'_14.out.below b15)
    clear V'_14
    have U'_15 := Lib.hid (U'_14.out.below b15)
    clear U'_14
    have X1_15 := Lib.hid (row_below X1_14.out b15)
    clear X1_14
    have X2_15 := Lib.hid (row_below X2_14.out b15)
    clear X2_14
    have RB_15 := Lib.hid (RB_14.out.trans (b15.mono RB_14.out.size))
    clear RB_14
    have Z1_15 := Lib.hid (row_below Z1.out b15)
    clear Z1
    have Z2_15 := Lib.hid (row_below Z2.out b15)
    clear Z2
    have KT_15 := Lib.hid (KT_14.out.below b15 KT_14.out.lt)
    clear KT_14
    have KO_15 := Lib.hid (KO_14.out.below b15 KO_14.out.lt)
    clear KO_14
    have KJ_15 := Lib.hid (KJ_14.out.below b15 KJ_14.out.lt)
    clear KJ_14
    have KM_15 := Lib.hid (KM_14.out.below b15 KM_14.out.lt)
    clear KM_14
    have B_15 := Lib.hid (B_14.out.trans (b15.mono B_14.out.size))
    clear B_14
    clear b15
    obtain ⟨x1, x2, rfl, q3, q4⟩ := ht
    obtain ⟨ya2, yc2, rfl⟩ := row_slice q3
    obtain ⟨yb2, yd2, rfl⟩ := row_slice q4
    have Y1 := Lib.hid q3
    clear q3
    have Y2 := Lib.hid q4
    clear q4
    have neY1 := Lib.hid (fun g (e : (.slice ya2 P2.length yc2 : Value).ownBlock = some g) => show g ≠ w12.heap.size from by have := (Y1.out.lt g e).1; omega)
    have neY2 := Lib.hid (fun g (e : (.slice yb2 Q2.length yd2 : Value).ownBlock = some g) => show g ≠ w12.heap.size from by have := (Y2.out.lt g e).1; omega)
    clear gK
    try go_simp
    refine hK.out _ _ (HS12.out _ RB_15.out) (fun hHeld => ?_)
    clear hK
    try simp only [Act.put, List.setIfInBounds_toArray, List.set_cons_zero, List.set_cons_succ]
    try (first | (refine take_yes (i := 0) (v := ?_) rfl (by kernel_rfl) (by decide +kernel) (by decide +kernel) (fun _ _ _ h => h) (by rfl) ?_ (by assumption) ?_; rotate_left; intro w hSw; (try dsimp only at hSw); go_simp; with_reducible rfl; simp only [Act.put, List.setIfInBounds_toArray, List.set_cons_zero, List.set_cons_succ]) | (refine take_no (i := 0) rfl (by kernel_rfl) (by decide +kernel) (by decide +kernel) (fun _ _ _ h => h) (by rfl) (by assumption) ?_; simp only [Act.put, List.setIfInBounds_toArray, List.set_cons_zero, List.set_cons_succ]))
    try (first | (refine take_yes (i := 1) (v := ?_) rfl (by kernel_rfl) (by decide +kernel) (by decide +kernel) (fun _ _ _ h => h) (by rfl) ?_ (by assumption) ?_; rotate_left; intro w hSw; (try dsimp only at hSw); go_simp; with_reducible rfl; simp only [Act.put, List.setIfInBounds_toArray, List.set_cons_zero, List.set_cons_succ]) | (refine take_no (i := 1) rfl (by kernel_rfl) (by decide +kernel) (by decide +kernel) (fun _ _ _ h => h) (by rfl) (by assumption) ?_; simp only [Act.put, List.setIfInBounds_toArray, List.set_cons_zero, List.set_cons_succ]))
    refine take_this (i := 5) (by decide +kernel) rfl (by rfl) (fun K hK => ?_)
    have f0 := KM_15.out.frozen 0
    have e0 : w15.cell? ⟨w12.heap.size, 0, none⟩ = some (.slice none 0 0) := KM_15.out.cell 0
    have f1 := KM_15.out.frozen 1
    have e1 : w15.cell? ⟨w12.heap.size, 1, none⟩ = some (.slice none 0 0) := KM_15.out.cell 1
    go_simp
    clear f0 e0 f1 e1
    have RB_16 := Lib.hid ((RB_15.out.setCell (p := ⟨w12.heap.size, 0, none⟩) (by show w11.heap.size ≤ w12.heap.size; omega) (.slice ya2 P2.length yc2)).setCell (p := ⟨w12.heap.size, 1, none⟩) (by show w11.heap.size ≤ w12.heap.size; omega) (.slice yb2 Q2.length yd2))
    have KM_16 := Lib.hid ((KM_15.out.set 0 (.slice ya2 P2.length yc2)).set 1 (.slice yb2 Q2.length yd2))
    have V_16 := Lib.hid (V_o12.out.below RB_16.out)
    have U_16 := Lib.hid (U_o12.out.below RB_16.out)
    have V'_16 := Lib.hid (V'_o12.out.below RB_16.out)
    have U'_16 := Lib.hid (U'_o12.out.below RB_16.out)
    have X1_16 := Lib.hid (row_below X1_o12.out RB_16.out)
    have X2_16 := Lib.hid (row_below X2_o12.out RB_16.out)
    have Z1_16 := Lib.hid (row_other (row_other Z1_15.out (p := ⟨w12.heap.size, 0, none⟩) neZ1.out (.slice ya2 P2.length yc2)) (p := ⟨w12.heap.size, 1, none⟩) neZ1.out (.slice yb2 Q2.length yd2))
    have Z2_16 := Lib.hid (row_other (row_other Z2_15.out (p := ⟨w12.heap.size, 0, none⟩) neZ2.out (.slice ya2 P2.length yc2)) (p := ⟨w12.heap.size, 1, none⟩) neZ2.out (.slice yb2 Q2.length yd2))
    have Y1_16 := Lib.hid (row_other (row_other Y1.out (p := ⟨w12.heap.size, 0, none⟩) neY1.out (.slice ya2 P2.length yc2)) (p := ⟨w12.heap.size, 1, none⟩) neY1.out (.slice yb2 Q2.length yd2))
    have Y2_16 := Lib.hid (row_other (row_other Y2.out (p := ⟨w12.heap.size, 0, none⟩) neY2.out (.slice ya2 P2.length yc2)) (p := ⟨w12.heap.size, 1, none⟩) neY2.out (.slice yb2 Q2.length yd2))
    have KT_16 := Lib.hid (KT_o12.out.below RB_16.out KT_o12.out.lt)
    have KO_16 := Lib.hid (KO_o12.out.below RB_16.out KO_o12.out.lt)
    have KJ_16 := Lib.hid (KJ_o12.out.below RB_16.out KJ_o12.out.lt)
    have B_16 := Lib.hid (B_o12.out.trans (RB_16.out.mono B_o12.out.size))
    clear V_15 U_15 V'_15 U'_15 X1_15 X2_15 RB_15 Z1_15 Z2_15 Y1 Y2 KT_15 KO_15 KJ_15 KM_15 B_15
    clear V_o12 U_o12 V'_o12 U'_o12 X1_o12 X2_o12 KT_o12 KO_o12 KJ_o12 B_o12 neZ1 neZ2 neY1 neY2 gB
    generalize ((w15.setCell ⟨w12.heap.size, 0, none⟩ (.slice ya2 P2.length yc2)).setCell ⟨w12.heap.size, 1, none⟩ (.slice yb2 Q2.length yd2)) = w16 at RB_16 V_16 U_16 V'_16 U'_16 X1_16 X2_16 Z1_16 Z2_16 Y1_16 Y2_16 KM_16 KT_16 KO_16 KJ_16 B_16 ⊢
    try go_simp
    refine hK.out _ _ (HS12.out _ RB_16.out) (fun hHeld => ?_)
    clear hK
    try simp only [Act.put, List.setIfInBounds_toArray, List.set_cons_zero, List.set_cons_succ]
    refine wpAnyH_done (by decide +kernel) ?_ _
    clear hHeld HS12 RB_16
    have lM_16 : w12.heap.size < w16.heap.size := KM_16.out.lt
    have cM_0_16 : w16.cell? ⟨w12.heap.size, 0, none⟩ = some (.slice ya2 P2.length yc2) := KM_16.out.cell 0
    have cM_1_16 : w16.cell? ⟨w12.heap.size, 1, none⟩ = some (.slice yb2 Q2.length yd2) := KM_16.out.cell 1
    go_wp2_with fail
    clear lM_16 cM_0_16 cM_1_16
    refine (ahead_ex2 P2 Q2 _ _ s ⟨#[]⟩ false _ (Lst.of_row Y1_16.out) (Lst.of_row Y2_16.out) ZP2.out ZQ2.out HS.out HJ2.out).mono ?_
    rintro e w17 ⟨rfl, b17⟩
    have V_17 := Lib.hid (V_16.out.below b17)
    clear V_16
    have U_17 := Lib.hid (U_16.out.below b17)
    clear U_16
    have V'_17 := Lib.hid (V'_16.out.below b17)
    clear V'_16
    have U'_17 := Lib.hid (U'_16.out.below b17)
    clear U'_16
    have X1_17 := Lib.hid (row_below X1_16.out b17)
    clear X1_16
    have X2_17 := Lib.hid (row_below X2_16.out b17)
    clear X2_16
    have Z1_17 := Lib.hid (row_below Z1_16.out b17)
    clear Z1_16
    have Z2_17 := Lib.hid (row_below Z2_16.out b17)
    clear Z2_16
    have Y1_17 := Lib.hid (row_below Y1_16.out b17)
    clear Y1_16
    have Y2_17 := Lib.hid (row_below Y2_16.out b17)
    clear Y2_16
    have KM_17 := Lib.hid (KM_16.out.below b17 KM_16.out.lt)
    clear KM_16
    have KT_17 := Lib.hid (KT_16.out.below b17 KT_16.out.lt)
    clear KT_16
    have KO_17 := Lib.hid (KO_16.out.below b17 KO_16.out.lt)
    clear KO_16
    have KJ_17 := Lib.hid (KJ_16.out.below b17 KJ_16.out.lt)
    clear KJ_16
    have B_17 := Lib.hid (B_16.out.trans (b17.mono B_16.out.size))
    clear B_16
    clear b17
    have lJ_17 : w7.heap.size < w17.heap.size := KJ_17.out.lt
    have cJ_0_17 : w17.cell? ⟨w7.heap.size, 0, none⟩ = some (.slice xa P.length xc) := KJ_17.out.cell 0
    have cJ_1_17 : w17.cell? ⟨w7.heap.size, 1, none⟩ = some (.slice ya Q.length yc) := KJ_17.out.cell 1
    go_wp2_with fail
    have hss : (s.toList == s.toList) = true := beq_self_eq_true _
    have hcc : (r2.toList == r2.toList) = true := beq_self_eq_true _
    clear lJ_17 cJ_0_17 cJ_1_17
    refine (check_ex P Q _ _ 0 _ (Lst.of_row X1_17.out) (Lst.of_row X2_17.out) ZP.out ZQ.out HJ0.out).mono ?_
    rintro e w18 ⟨rfl, b18⟩
    have V_18 := Lib.hid (V_17.out.below b18)
    clear V_17
    have U_18 := Lib.hid (U_17.out.below b18)
    clear U_17
    have V'_18 := Lib.hid (V'_17.out.below b18)
    clear V'_17
    have U'_18 := Lib.hid (U'_17.out.below b18)
    clear U'_17
    have X1_18 := Lib.hid (row_below X1_17.out b18)
    clear X1_17
    have X2_18 := Lib.hid (row_below X2_17.out b18)
    clear X2_17
    have Z1_18 := Lib.hid (row_below Z1_17.out b18)
    clear Z1_17
    have Z2_18 := Lib.hid (row_below Z2_17.out b18)
    clear Z2_17
    have Y1_18 := Lib.hid (row_below Y1_17.out b18)
    clear Y1_17
    have Y2_18 := Lib.hid (row_below Y2_17.out b18)
    clear Y2_17
    have KM_18 := Lib.hid (KM_17.out.below b18 KM_17.out.lt)
    clear KM_17
    have KT_18 := Lib.hid (KT_17.out.below b18 KT_17.out.lt)
    clear KT_17
    have KO_18 := Lib.hid (KO_17.out.below b18 KO_17.out.lt)
    clear KO_17
    have KJ_18 := Lib.hid (KJ_17.out.below b18 KJ_17.out.lt)
    clear KJ_17
    have B_18 := Lib.hid (B_17.out.trans (b18.mono B_17.out.size))
    clear B_17
    clear b18
    go_wp2
    go_ret
    exact ⟨rfl, B_18.out⟩

theorem joins_ff (a b a' b' : List ByteArray) (v u v' u' : Value) (s : ByteArray) (w : World) (hv : Lst stc w v a) (hu : Lst stc w u b) (hv' : Lst stc w v' a') (hu' : Lst stc w u' b') (hn : NilFine v) (hn' : NilFine u) (hs : s.size ≤ maxLen) (h1 : (fewB a 210 && fewB b 210) = true) (h2 : (fewB a' 210 && fewB b' 210) = true) (h0 : checkF a b = 0) (h0x : checkF a' b' = 0) (r r2 : ByteArray) (hr : aheadF a b s = (r, false)) (hr2 : aheadF a' b' r = (r2, false)) :
    Calls Try.prog 6 #[.agg #[v, u], .agg #[v', u'], .string s] w fun e w' => e = .returned (.bool true) ∧ Below w.heap.size w w' := by
  obtain ⟨f1, f2⟩ := Bool.and_eq_true_iff.1 h1
  obtain ⟨f3, f4⟩ := Bool.and_eq_true_iff.1 h2
  obtain ⟨la, za⟩ := few_of f1
  obtain ⟨lb, zb⟩ := few_of f2
  obtain ⟨la', za'⟩ := few_of f3
  obtain ⟨lb', zb'⟩ := few_of f4
  clear f1 f2 f3 f4
  have hrz := aheadF_size hr zb
  have h0t := check_turn.1 h0
  obtain ⟨P, hP⟩ : ∃ p, (joinR a b a' b').map (·.1) = p := ⟨_, rfl⟩
  obtain ⟨Q, hQ⟩ : ∃ p, (joinR a b a' b').map (·.2) = p := ⟨_, rfl⟩
  obtain ⟨P2, hP2⟩ : ∃ p, (joinR a b b a).map (·.1) = p := ⟨_, rfl⟩
  obtain ⟨Q2, hQ2⟩ : ∃ p, (joinR a b b a).map (·.2) = p := ⟨_, rfl⟩
  obtain ⟨zP, zQ⟩ := join_sizes hP hQ za zb'
  obtain ⟨zP2, zQ2⟩ := join_sizes hP2 hQ2 za za
  have hj0 := join_check h0 h0x hP hQ
  have hj := join_no h0 h0x hP hQ hr
  have hj2 := join_no h0 h0t hP2 hQ2 hr
  have H1 := Lib.hid h1
  have H2 := Lib.hid h2
  have ZA := Lib.hid za
  have ZB := Lib.hid zb
  have ZA' := Lib.hid za'
  have ZB' := Lib.hid zb'
  have H0 := Lib.hid h0
  have H0X := Lib.hid h0x
  have H0T := Lib.hid h0t
  have HR := Lib.hid hr
  have HR2 := Lib.hid hr2
  have HS := Lib.hid hs
  have HRZ := Lib.hid hrz
  have HN := Lib.hid hn
  have HN' := Lib.hid hn'
  have HP := Lib.hid hP
  have HQ := Lib.hid hQ
  have HP2 := Lib.hid hP2
  have HQ2 := Lib.hid hQ2
  have ZP := Lib.hid zP
  have ZQ := Lib.hid zQ
  have ZP2 := Lib.hid zP2
  have ZQ2 := Lib.hid zQ2
  have HJ0 := Lib.hid hj0
  have HJ := Lib.hid hj
  have HJ2 := Lib.hid hj2
  clear h1 h2 za zb za' zb' h0 h0x h0t hr hr2 hs hrz hn hn' hP hQ hP2 hQ2 zP zQ zP2 zQ2 hj0 hj hj2
  clear la lb la' lb'
  have HV := Lib.hid hv
  have HU := Lib.hid hu
  have HV' := Lib.hid hv'
  have HU' := Lib.hid hu'
  obtain ⟨va, vc, rfl⟩ := hv.slice
  obtain ⟨ua, uc, rfl⟩ := hu.slice
  obtain ⟨va', vc', rfl⟩ := hv'.slice
  obtain ⟨ua', uc', rfl⟩ := hu'.slice
  clear hv hu hv' hu'
  go_enter Try.func6, Try.ntmps6
  go_wp2_with fail
  have a1 : Below w.heap.size w ((w.alloc (.cells #[.slice va a.length vc, .slice ua b.length uc] 24)).alloc (.cells #[.slice va' a'.length vc', .slice ua' b'.length uc'] 24)) := (((Below.refl w.heap.size w).alloc (by first | exact Nat.le_refl _ | (simp only [World.size_alloc]; omega)) (.cells #[.slice va a.length vc, .slice ua b.length uc] 24)).alloc (by first | exact Nat.le_refl _ | (simp only [World.size_alloc]; omega)) (.cells #[.slice va' a'.length vc', .slice ua' b'.length uc'] 24))
  have T_new0 := ((Blk.new w #[.slice va a.length vc, .slice ua b.length uc] 24).alloc (.cells #[.slice va' a'.length vc', .slice ua' b'.length uc'] 24))
  have KT_00 := Lib.hid T_new0
  clear T_new0
  have O_new0 := (Blk.new (w.alloc (.cells #[.slice va a.length vc, .slice ua b.length uc] 24)) #[.slice va' a'.length vc', .slice ua' b'.length uc'] 24)
  rw [World.size_alloc] at O_new0
  have KO_00 := Lib.hid O_new0
  clear O_new0
  have V_1 := Lib.hid (HV.out.below a1)
  clear HV
  have U_1 := Lib.hid (HU.out.below a1)
  clear HU
  have V'_1 := Lib.hid (HV'.out.below a1)
  clear HV'
  have U'_1 := Lib.hid (HU'.out.below a1)
  clear HU'
  have B_1 := Lib.hid a1
  clear a1
  generalize ((w.alloc (.cells #[.slice va a.length vc, .slice ua b.length uc] 24)).alloc (.cells #[.slice va' a'.length vc', .slice ua' b'.length uc'] 24)) = w1 at V_1 U_1 V'_1 U'_1 KT_00 KO_00 B_1 ⊢
  refine (works_any _).mono ?_
  rintro e w2 ⟨rfl, b2⟩
  have V_2 := Lib.hid (V_1.out.below b2)
  clear V_1
  have U_2 := Lib.hid (U_1.out.below b2)
  clear U_1
  have V'_2 := Lib.hid (V'_1.out.below b2)
  clear V'_1
  have U'_2 := Lib.hid (U'_1.out.below b2)
  clear U'_1
  have KT_2 := Lib.hid (KT_00.out.below b2 KT_00.out.lt)
  clear KT_00
  have KO_2 := Lib.hid (KO_00.out.below b2 KO_00.out.lt)
  clear KO_00
  have B_2 := Lib.hid (B_1.out.trans (b2.mono B_1.out.size))
  clear B_1
  clear b2
  have lT_2 : w.heap.size < w2.heap.size := KT_2.out.lt
  have cT_0_2 : w2.cell? ⟨w.heap.size, 0, none⟩ = some (.slice va a.length vc) := KT_2.out.cell 0
  have cT_1_2 : w2.cell? ⟨w.heap.size, 1, none⟩ = some (.slice ua b.length uc) := KT_2.out.cell 1
  have lO_2 : w.heap.size + 1 < w2.heap.size := KO_2.out.lt
  have cO_0_2 : w2.cell? ⟨w.heap.size + 1, 0, none⟩ = some (.slice va' a'.length vc') := KO_2.out.cell 0
  have cO_1_2 : w2.cell? ⟨w.heap.size + 1, 1, none⟩ = some (.slice ua' b'.length uc') := KO_2.out.cell 1
  go_wp2_with fail
  clear lT_2 cT_0_2 cT_1_2 lO_2 cO_0_2 cO_1_2
  refine (few_ex a b _ _ true _ V_2.out U_2.out H1.out).mono ?_
  rintro e w3 ⟨rfl, b3⟩
  have V_3 := Lib.hid (V_2.out.below b3)
  clear V_2
  have U_3 := Lib.hid (U_2.out.below b3)
  clear U_2
  have V'_3 := Lib.hid (V'_2.out.below b3)
  clear V'_2
  have U'_3 := Lib.hid (U'_2.out.below b3)
  clear U'_2
  have KT_3 := Lib.hid (KT_2.out.below b3 KT_2.out.lt)
  clear KT_2
  have KO_3 := Lib.hid (KO_2.out.below b3 KO_2.out.lt)
  clear KO_2
  have B_3 := Lib.hid (B_2.out.trans (b3.mono B_2.out.size))
  clear B_2
  clear b3
  have lT_3 : w.heap.size < w3.heap.size := KT_3.out.lt
  have cT_0_3 : w3.cell? ⟨w.heap.size, 0, none⟩ = some (.slice va a.length vc) := KT_3.out.cell 0
  have cT_1_3 : w3.cell? ⟨w.heap.size, 1, none⟩ = some (.slice ua b.length uc) := KT_3.out.cell 1
  have lO_3 : w.heap.size + 1 < w3.heap.size := KO_3.out.lt
  have cO_0_3 : w3.cell? ⟨w.heap.size + 1, 0, none⟩ = some (.slice va' a'.length vc') := KO_3.out.cell 0
  have cO_1_3 : w3.cell? ⟨w.heap.size + 1, 1, none⟩ = some (.slice ua' b'.length uc') := KO_3.out.cell 1
  go_wp2_with fail
  clear lT_3 cT_0_3 cT_1_3 lO_3 cO_0_3 cO_1_3
  refine (few_ex a' b' _ _ true _ V'_3.out U'_3.out H2.out).mono ?_
  rintro e w4 ⟨rfl, b4⟩
  have V_4 := Lib.hid (V_3.out.below b4)
  clear V_3
  have U_4 := Lib.hid (U_3.out.below b4)
  clear U_3
  have V'_4 := Lib.hid (V'_3.out.below b4)
  clear V'_3
  have U'_4 := Lib.hid (U'_3.out.below b4)
  clear U'_3
  have KT_4 := Lib.hid (KT_3.out.below b4 KT_3.out.lt)
  clear KT_3
  have KO_4 := Lib.hid (KO_3.out.below b4 KO_3.out.lt)
  clear KO_3
  have B_4 := Lib.hid (B_3.out.trans (b4.mono B_3.out.size))
  clear B_3
  clear b4
  have lT_4 : w.heap.size < w4.heap.size := KT_4.out.lt
  have cT_0_4 : w4.cell? ⟨w.heap.size, 0, none⟩ = some (.slice va a.length vc) := KT_4.out.cell 0
  have cT_1_4 : w4.cell? ⟨w.heap.size, 1, none⟩ = some (.slice ua b.length uc) := KT_4.out.cell 1
  have lO_4 : w.heap.size + 1 < w4.heap.size := KO_4.out.lt
  have cO_0_4 : w4.cell? ⟨w.heap.size + 1, 0, none⟩ = some (.slice va' a'.length vc') := KO_4.out.cell 0
  have cO_1_4 : w4.cell? ⟨w.heap.size + 1, 1, none⟩ = some (.slice ua' b'.length uc') := KO_4.out.cell 1
  go_wp2_with fail
  clear lT_4 cT_0_4 cT_1_4 lO_4 cO_0_4 cO_1_4
  refine (check_ex a b _ _ 0 _ V_4.out U_4.out ZA.out ZB.out H0.out).mono ?_
  rintro e w5 ⟨rfl, b5⟩
  have V_5 := Lib.hid (V_4.out.below b5)
  clear V_4
  have U_5 := Lib.hid (U_4.out.below b5)
  clear U_4
  have V'_5 := Lib.hid (V'_4.out.below b5)
  clear V'_4
  have U'_5 := Lib.hid (U'_4.out.below b5)
  clear U'_4
  have KT_5 := Lib.hid (KT_4.out.below b5 KT_4.out.lt)
  clear KT_4
  have KO_5 := Lib.hid (KO_4.out.below b5 KO_4.out.lt)
  clear KO_4
  have B_5 := Lib.hid (B_4.out.trans (b5.mono B_4.out.size))
  clear B_4
  clear b5
  have lT_5 : w.heap.size < w5.heap.size := KT_5.out.lt
  have cT_0_5 : w5.cell? ⟨w.heap.size, 0, none⟩ = some (.slice va a.length vc) := KT_5.out.cell 0
  have cT_1_5 : w5.cell? ⟨w.heap.size, 1, none⟩ = some (.slice ua b.length uc) := KT_5.out.cell 1
  have lO_5 : w.heap.size + 1 < w5.heap.size := KO_5.out.lt
  have cO_0_5 : w5.cell? ⟨w.heap.size + 1, 0, none⟩ = some (.slice va' a'.length vc') := KO_5.out.cell 0
  have cO_1_5 : w5.cell? ⟨w.heap.size + 1, 1, none⟩ = some (.slice ua' b'.length uc') := KO_5.out.cell 1
  go_wp2_with fail
  clear lT_5 cT_0_5 cT_1_5 lO_5 cO_0_5 cO_1_5
  refine (check_ex a' b' _ _ 0 _ V'_5.out U'_5.out ZA'.out ZB'.out H0X.out).mono ?_
  rintro e w6 ⟨rfl, b6⟩
  have V_6 := Lib.hid (V_5.out.below b6)
  clear V_5
  have U_6 := Lib.hid (U_5.out.below b6)
  clear U_5
  have V'_6 := Lib.hid (V'_5.out.below b6)
  clear V'_5
  have U'_6 := Lib.hid (U'_5.out.below b6)
  clear U'_5
  have KT_6 := Lib.hid (KT_5.out.below b6 KT_5.out.lt)
  clear KT_5
  have KO_6 := Lib.hid (KO_5.out.below b6 KO_5.out.lt)
  clear KO_5
  have B_6 := Lib.hid (B_5.out.trans (b6.mono B_5.out.size))
  clear B_5
  clear b6
  have lT_6 : w.heap.size < w6.heap.size := KT_6.out.lt
  have cT_0_6 : w6.cell? ⟨w.heap.size, 0, none⟩ = some (.slice va a.length vc) := KT_6.out.cell 0
  have cT_1_6 : w6.cell? ⟨w.heap.size, 1, none⟩ = some (.slice ua b.length uc) := KT_6.out.cell 1
  have lO_6 : w.heap.size + 1 < w6.heap.size := KO_6.out.lt
  have cO_0_6 : w6.cell? ⟨w.heap.size + 1, 0, none⟩ = some (.slice va' a'.length vc') := KO_6.out.cell 0
  have cO_1_6 : w6.cell? ⟨w.heap.size + 1, 1, none⟩ = some (.slice ua' b'.length uc') := KO_6.out.cell 1
  go_wp2_with fail
  clear lT_6 cT_0_6 cT_1_6 lO_6 cO_0_6 cO_1_6
  refine (join_ex a b a' b' _ _ _ _ P Q _ V_6.out U_6.out V'_6.out U'_6.out ZA.out ZB.out ZA'.out ZB'.out HP.out HQ.out).mono ?_
  rintro e w7 ⟨V1, rfl, ht, b7⟩
  have V_7 := Lib.hid (V_6.out.below b7)
  clear V_6
  have U_7 := Lib.hid (U_6.out.below b7)
  clear U_6
  have V'_7 := Lib.hid (V'_6.out.below b7)
  clear V'_6
  have U'_7 := Lib.hid (U'_6.out.below b7)
  clear U'_6
  have KT_7 := Lib.hid (KT_6.out.below b7 KT_6.out.lt)
  clear KT_6
  have KO_7 := Lib.hid (KO_6.out.below b7 KO_6.out.lt)
  clear KO_6
  have B_7 := Lib.hid (B_6.out.trans (b7.mono B_6.out.size))
  clear B_6
  clear b7
  obtain ⟨x1, x2, rfl, r1, r2'⟩ := ht
  obtain ⟨xa, xc, rfl⟩ := row_slice r1
  obtain ⟨ya, yc, rfl⟩ := row_slice r2'
  have X1 := Lib.hid r1
  clear r1
  have X2 := Lib.hid r2'
  clear r2'
  have lT_7 : w.heap.size < w7.heap.size := KT_7.out.lt
  have cT_0_7 : w7.cell? ⟨w.heap.size, 0, none⟩ = some (.slice va a.length vc) := KT_7.out.cell 0
  have cT_1_7 : w7.cell? ⟨w.heap.size, 1, none⟩ = some (.slice ua b.length uc) := KT_7.out.cell 1
  have lO_7 : w.heap.size + 1 < w7.heap.size := KO_7.out.lt
  have cO_0_7 : w7.cell? ⟨w.heap.size + 1, 0, none⟩ = some (.slice va' a'.length vc') := KO_7.out.cell 0
  have cO_1_7 : w7.cell? ⟨w.heap.size + 1, 1, none⟩ = some (.slice ua' b'.length uc') := KO_7.out.cell 1
  go_wp2_with fail
  clear lT_7 cT_0_7 cT_1_7 lO_7 cO_0_7 cO_1_7
  have a2 : Below w7.heap.size w7 (w7.alloc (.cells #[.slice xa P.length xc, .slice ya Q.length yc] 24)) := ((Below.refl w7.heap.size w7).alloc (by first | exact Nat.le_refl _ | (simp only [World.size_alloc]; omega)) (.cells #[.slice xa P.length xc, .slice ya Q.length yc] 24))
  have J_new7 := (Blk.new w7 #[.slice xa P.length xc, .slice ya Q.length yc] 24)
  have KJ_07 := Lib.hid J_new7
  clear J_new7
  have V_8 := Lib.hid (V_7.out.below a2)
  clear V_7
  have U_8 := Lib.hid (U_7.out.below a2)
  clear U_7
  have V'_8 := Lib.hid (V'_7.out.below a2)
  clear V'_7
  have U'_8 := Lib.hid (U'_7.out.below a2)
  clear U'_7
  have X1_8 := Lib.hid (row_below X1.out a2)
  clear X1
  have X2_8 := Lib.hid (row_below X2.out a2)
  clear X2
  have KT_8 := Lib.hid (KT_7.out.below a2 KT_7.out.lt)
  clear KT_7
  have KO_8 := Lib.hid (KO_7.out.below a2 KO_7.out.lt)
  clear KO_7
  have B_8 := Lib.hid (B_7.out.trans (a2.mono B_7.out.size))
  clear B_7
  clear a2
  generalize (w7.alloc (.cells #[.slice xa P.length xc, .slice ya Q.length yc] 24)) = w8 at V_8 U_8 V'_8 U'_8 X1_8 X2_8 KT_8 KO_8 KJ_07 B_8 ⊢
  refine (ahead_ex2 a b _ _ s r false _ V_8.out U_8.out ZA.out ZB.out HS.out HR.out).mono ?_
  rintro e w9 ⟨rfl, b9⟩
  have V_9 := Lib.hid (V_8.out.below b9)
  clear V_8
  have U_9 := Lib.hid (U_8.out.below b9)
  clear U_8
  have V'_9 := Lib.hid (V'_8.out.below b9)
  clear V'_8
  have U'_9 := Lib.hid (U'_8.out.below b9)
  clear U'_8
  have X1_9 := Lib.hid (row_below X1_8.out b9)
  clear X1_8
  have X2_9 := Lib.hid (row_below X2_8.out b9)
  clear X2_8
  have KT_9 := Lib.hid (KT_8.out.below b9 KT_8.out.lt)
  clear KT_8
  have KO_9 := Lib.hid (KO_8.out.below b9 KO_8.out.lt)
  clear KO_8
  have KJ_9 := Lib.hid (KJ_07.out.below b9 KJ_07.out.lt)
  clear KJ_07
  have B_9 := Lib.hid (B_8.out.trans (b9.mono B_8.out.size))
  clear B_8
  clear b9
  have lT_9 : w.heap.size < w9.heap.size := KT_9.out.lt
  have cT_0_9 : w9.cell? ⟨w.heap.size, 0, none⟩ = some (.slice va a.length vc) := KT_9.out.cell 0
  have cT_1_9 : w9.cell? ⟨w.heap.size, 1, none⟩ = some (.slice ua b.length uc) := KT_9.out.cell 1
  have lO_9 : w.heap.size + 1 < w9.heap.size := KO_9.out.lt
  have cO_0_9 : w9.cell? ⟨w.heap.size + 1, 0, none⟩ = some (.slice va' a'.length vc') := KO_9.out.cell 0
  have cO_1_9 : w9.cell? ⟨w.heap.size + 1, 1, none⟩ = some (.slice ua' b'.length uc') := KO_9.out.cell 1
  go_wp2_with fail
  clear lT_9 cT_0_9 cT_1_9 lO_9 cO_0_9 cO_1_9
  refine (ahead_ex2 a' b' _ _ r r2 false _ V'_9.out U'_9.out ZA'.out ZB'.out HRZ.out HR2.out).mono ?_
  rintro e w10 ⟨rfl, b10⟩
  have V_10 := Lib.hid (V_9.out.below b10)
  clear V_9
  have U_10 := Lib.hid (U_9.out.below b10)
  clear U_9
  have V'_10 := Lib.hid (V'_9.out.below b10)
  clear V'_9
  have U'_10 := Lib.hid (U'_9.out.below b10)
  clear U'_9
  have X1_10 := Lib.hid (row_below X1_9.out b10)
  clear X1_9
  have X2_10 := Lib.hid (row_below X2_9.out b10)
  clear X2_9
  have KT_10 := Lib.hid (KT_9.out.below b10 KT_9.out.lt)
  clear KT_9
  have KO_10 := Lib.hid (KO_9.out.below b10 KO_9.out.lt)
  clear KO_9
  have KJ_10 := Lib.hid (KJ_9.out.below b10 KJ_9.out.lt)
  clear KJ_9
  have B_10 := Lib.hid (B_9.out.trans (b10.mono B_9.out.size))
  clear B_9
  clear b10
  have lJ_10 : w7.heap.size < w10.heap.size := KJ_10.out.lt
  have cJ_0_10 : w10.cell? ⟨w7.heap.size, 0, none⟩ = some (.slice xa P.length xc) := KJ_10.out.cell 0
  have cJ_1_10 : w10.cell? ⟨w7.heap.size, 1, none⟩ = some (.slice ya Q.length yc) := KJ_10.out.cell 1
  go_wp2_with fail
  clear lJ_10 cJ_0_10 cJ_1_10
  refine (ahead_ex2 P Q _ _ s ⟨#[]⟩ false _ (Lst.of_row X1_10.out) (Lst.of_row X2_10.out) ZP.out ZQ.out HS.out HJ.out).mono ?_
  rintro e w11 ⟨rfl, b11⟩
  have V_11 := Lib.hid (V_10.out.below b11)
  clear V_10
  have U_11 := Lib.hid (U_10.out.below b11)
  clear U_10
  have V'_11 := Lib.hid (V'_10.out.below b11)
  clear V'_10
  have U'_11 := Lib.hid (U'_10.out.below b11)
  clear U'_10
  have X1_11 := Lib.hid (row_below X1_10.out b11)
  clear X1_10
  have X2_11 := Lib.hid (row_below X2_10.out b11)
  clear X2_10
  have KT_11 := Lib.hid (KT_10.out.below b11 KT_10.out.lt)
  clear KT_10
  have KO_11 := Lib.hid (KO_10.out.below b11 KO_10.out.lt)
  clear KO_10
  have KJ_11 := Lib.hid (KJ_10.out.below b11 KJ_10.out.lt)
  clear KJ_10
  have B_11 := Lib.hid (B_10.out.trans (b11.mono B_10.out.size))
  clear B_10
  clear b11
  go_wp2_with fail
  have V_o12 := V_11
  have U_o12 := U_11
  have V'_o12 := V'_11
  have U'_o12 := U'_11
  have X1_o12 := X1_11
  have X2_o12 := X2_11
  have KT_o12 := KT_11
  have KO_o12 := KO_11
  have KJ_o12 := KJ_11
  have B_o12 := B_11
  have HS12 : Hid (∀ X : World, Below w11.heap.size w11 X → X.cell? ⟨w.heap.size, 0, none⟩ = some (.slice va a.length vc) ∧ X.cell? ⟨w.heap.size, 1, none⟩ = some (.slice ua b.length uc) ∧ Below w11.heap.size w11 X) := Lib.hid fun X h => ⟨(h.cell (p := ⟨w.heap.size, 0, none⟩) KT_11.out.lt).trans (KT_11.out.cell 0), (h.cell (p := ⟨w.heap.size, 1, none⟩) KT_11.out.lt).trans (KT_11.out.cell 1), h⟩
  refine wp_region_held_drew (S := fun X => X.cell? ⟨w.heap.size, 0, none⟩ = some (.slice va a.length vc) ∧ X.cell? ⟨w.heap.size, 1, none⟩ = some (.slice ua b.length uc) ∧ Below w11.heap.size w11 X) (by kernel_rfl) (HS12.out _ (Below.refl _ _).drew) (fun hHeld => ?_)
  have bd : Below w11.heap.size w11 w11.drew := (Below.refl _ _).drew
  have RB0 := Lib.hid bd
  have V_12 := Lib.hid (V_11.out.below bd)
  clear V_11
  have U_12 := Lib.hid (U_11.out.below bd)
  clear U_11
  have V'_12 := Lib.hid (V'_11.out.below bd)
  clear V'_11
  have U'_12 := Lib.hid (U'_11.out.below bd)
  clear U'_11
  have X1_12 := Lib.hid (row_below X1_11.out bd)
  clear X1_11
  have X2_12 := Lib.hid (row_below X2_11.out bd)
  clear X2_11
  have KT_12 := Lib.hid (KT_11.out.below bd KT_11.out.lt)
  clear KT_11
  have KO_12 := Lib.hid (KO_11.out.below bd KO_11.out.lt)
  clear KO_11
  have KJ_12 := Lib.hid (KJ_11.out.below bd KJ_11.out.lt)
  clear KJ_11
  have B_12 := Lib.hid (B_11.out.trans (bd.mono B_11.out.size))
  clear B_11
  clear bd
  generalize w11.drew = w12 at V_12 U_12 V'_12 U'_12 X1_12 X2_12 RB0 KT_12 KO_12 KJ_12 B_12 hHeld ⊢
  try (first | (refine take_yes (i := 0) (v := ?_) rfl (by kernel_rfl) (by decide +kernel) (by decide +kernel) (fun _ _ _ h => h) (by rfl) ?_ (by assumption) ?_; rotate_left; intro w hSw; (try dsimp only at hSw); go_simp; with_reducible rfl; simp only [Act.put, List.setIfInBounds_toArray, List.set_cons_zero, List.set_cons_succ]) | (refine take_no (i := 0) rfl (by kernel_rfl) (by decide +kernel) (by decide +kernel) (fun _ _ _ h => h) (by rfl) (by assumption) ?_; simp only [Act.put, List.setIfInBounds_toArray, List.set_cons_zero, List.set_cons_succ]))
  try (first | (refine take_yes (i := 1) (v := ?_) rfl (by kernel_rfl) (by decide +kernel) (by decide +kernel) (fun _ _ _ h => h) (by rfl) ?_ (by assumption) ?_; rotate_left; intro w hSw; (try dsimp only at hSw); go_simp; with_reducible rfl; simp only [Act.put, List.setIfInBounds_toArray, List.set_cons_zero, List.set_cons_succ]) | (refine take_no (i := 1) rfl (by kernel_rfl) (by decide +kernel) (by decide +kernel) (fun _ _ _ h => h) (by rfl) (by assumption) ?_; simp only [Act.put, List.setIfInBounds_toArray, List.set_cons_zero, List.set_cons_succ]))
  refine take_two (i := 2) (j := 4) (by decide +kernel) rfl rfl (by rfl) (by rfl) (fun K hK => ?_) (fun K hK => ?_)
  · go_simp
    go_at_call 27
    refine (inv_ex a b _ _ 0 _ V_12.out U_12.out ZA.out ZB.out HN.out HN'.out H0T.out).mono ?_
    rintro e w13 ⟨V2, rfl, ht, b13⟩
    have V_13 := Lib.hid (V_12.out.below b13)
    clear V_12
    have U_13 := Lib.hid (U_12.out.below b13)
    clear U_12
    have V'_13 := Lib.hid (V'_12.out.below b13)
    clear V'_12
    have U'_13 := Lib.hid (U'_12.out.below b13)
    clear U'_12
    have X1_13 := Lib.hid (row_below X1_12.out b13)
    clear X1_12
    have X2_13 := Lib.hid (row_below X2_12.out b13)
    clear X2_12
    have RB_13 := Lib.hid (RB0.out.trans (b13.mono RB0.out.size))
    clear RB0
    have KT_13 := Lib.hid (KT_12.out.below b13 KT_12.out.lt)
    clear KT_12
    have KO_13 := Lib.hid (KO_12.out.below b13 KO_12.out.lt)
    clear KO_12
    have KJ_13 := Lib.hid (KJ_12.out.below b13 KJ_12.out.lt)
    clear KJ_12
    have B_13 := Lib.hid (B_12.out.trans (b13.mono B_12.out.size))
    clear B_12
    clear b13
    rw [okL_yes rfl, okL_yes rfl] at ht
    obtain ⟨x1, x2, rfl, q1, q2⟩ := ht
    obtain ⟨za, zc, rfl⟩ := row_slice q1
    obtain ⟨wa, wc, rfl⟩ := row_slice q2
    have Z1 := Lib.hid q1
    clear q1
    have Z2 := Lib.hid q2
    clear q2
    try go_simp
    refine hK.out _ _ (HS12.out _ RB_13.out) (fun hHeld => ?_)
    clear hK
    try simp only [Act.put, List.setIfInBounds_toArray, List.set_cons_zero, List.set_cons_succ]
    try (first | (refine take_yes (i := 0) (v := ?_) rfl (by kernel_rfl) (by decide +kernel) (by decide +kernel) (fun _ _ _ h => h) (by rfl) ?_ (by assumption) ?_; rotate_left; intro w hSw; (try dsimp only at hSw); go_simp; with_reducible rfl; simp only [Act.put, List.setIfInBounds_toArray, List.set_cons_zero, List.set_cons_succ]) | (refine take_no (i := 0) rfl (by kernel_rfl) (by decide +kernel) (by decide +kernel) (fun _ _ _ h => h) (by rfl) (by assumption) ?_; simp only [Act.put, List.setIfInBounds_toArray, List.set_cons_zero, List.set_cons_succ]))
    try (first | (refine take_yes (i := 1) (v := ?_) rfl (by kernel_rfl) (by decide +kernel) (by decide +kernel) (fun _ _ _ h => h) (by rfl) ?_ (by assumption) ?_; rotate_left; intro w hSw; (try dsimp only at hSw); go_simp; with_reducible rfl; simp only [Act.put, List.setIfInBounds_toArray, List.set_cons_zero, List.set_cons_succ]) | (refine take_no (i := 1) rfl (by kernel_rfl) (by decide +kernel) (by decide +kernel) (fun _ _ _ h => h) (by rfl) (by assumption) ?_; simp only [Act.put, List.setIfInBounds_toArray, List.set_cons_zero, List.set_cons_succ]))
    refine take_two (i := 3) (j := 4) (by decide +kernel) rfl rfl (by rfl) (by rfl) (fun K hK => ?_) (fun K hK => ?_)
    · go_simp
      go_at_call 28
      refine (join_ex a b b a _ _ _ _ P2 Q2 _ V_13.out U_13.out (Lst.of_row Z1.out) (Lst.of_row Z2.out) ZA.out ZB.out ZB.out ZA.out HP2.out HQ2.out).mono ?_
      rintro e w14 ⟨V3, rfl, ht, b14⟩
      have V_14 := Lib.hid (V_13.out.below b14)
      clear V_13
      have U_14 := Lib.hid (U_13.out.below b14)
      clear U_13
      have V'_14 := Lib.hid (V'_13.out.below b14)
      clear V'_13
      have U'_14 := Lib.hid (U'_13.out.below b14)
      clear U'_13
      have X1_14 := Lib.hid (row_below X1_13.out b14)
      clear X1_13
      have X2_14 := Lib.hid (row_below X2_13.out b14)
      clear X2_13
      have RB_14 := Lib.hid (RB_13.out.trans (b14.mono RB_13.out.size))
      clear RB_13
      have Z1_14 := Lib.hid (row_below Z1.out b14)
      clear Z1
      have Z2_14 := Lib.hid (row_below Z2.out b14)
      clear Z2
      have KT_14 := Lib.hid (KT_13.out.below b14 KT_13.out.lt)
      clear KT_13
      have KO_14 := Lib.hid (KO_13.out.below b14 KO_13.out.lt)
      clear KO_13
      have KJ_14 := Lib.hid (KJ_13.out.below b14 KJ_13.out.lt)
      clear KJ_13
      have B_14 := Lib.hid (B_13.out.trans (b14.mono B_13.out.size))
      clear B_13
      clear b14
      obtain ⟨x1, x2, rfl, q3, q4⟩ := ht
      obtain ⟨ya2, yc2, rfl⟩ := row_slice q3
      obtain ⟨yb2, yd2, rfl⟩ := row_slice q4
      have Y1 := Lib.hid q3
      clear q3
      have Y2 := Lib.hid q4
      clear q4
      try go_simp
      refine hK.out _ _ (HS12.out _ RB_14.out) (fun hHeld => ?_)
      clear hK
      try simp only [Act.put, List.setIfInBounds_toArray, List.set_cons_zero, List.set_cons_succ]
      try (first | (refine take_yes (i := 0) (v := ?_) rfl (by kernel_rfl) (by decide +kernel) (by decide +kernel) (fun _ _ _ h => h) (by rfl) ?_ (by assumption) ?_; rotate_left; intro w hSw; (try dsimp only at hSw); go_simp; with_reducible rfl; simp only [Act.put, List.setIfInBounds_toArray, List.set_cons_zero, List.set_cons_succ]) | (refine take_no (i := 0) rfl (by kernel_rfl) (by decide +kernel) (by decide +kernel) (fun _ _ _ h => h) (by rfl) (by assumption) ?_; simp only [Act.put, List.setIfInBounds_toArray, List.set_cons_zero, List.set_cons_succ]))
      try (first | (refine take_yes (i := 1) (v := ?_) rfl (by kernel_rfl) (by decide +kernel) (by decide +kernel) (fun _ _ _ h => h) (by rfl) ?_ (by assumption) ?_; rotate_left; intro w hSw; (try dsimp only at hSw); go_simp; with_reducible rfl; simp only [Act.put, List.setIfInBounds_toArray, List.set_cons_zero, List.set_cons_succ]) | (refine take_no (i := 1) rfl (by kernel_rfl) (by decide +kernel) (by decide +kernel) (fun _ _ _ h => h) (by rfl) (by assumption) ?_; simp only [Act.put, List.setIfInBounds_toArray, List.set_cons_zero, List.set_cons_succ]))
      refine take_this (i := 4) (by decide +kernel) rfl (by rfl) (fun K hK => ?_)
      go_simp
      have gB := RB_14.out.size
      have neZ1 := Lib.hid (fun g (e : (.slice za b.length zc : Value).ownBlock = some g) => show g ≠ w14.heap.size from by have := (Z1_14.out.lt g e).2; omega)
      have neZ2 := Lib.hid (fun g (e : (.slice wa a.length wc : Value).ownBlock = some g) => show g ≠ w14.heap.size from by have := (Z2_14.out.lt g e).2; omega)
      have neY1 := Lib.hid (fun g (e : (.slice ya2 P2.length yc2 : Value).ownBlock = some g) => show g ≠ w14.heap.size from by have := (Y1.out.lt g e).2; omega)
      have neY2 := Lib.hid (fun g (e : (.slice yb2 Q2.length yd2 : Value).ownBlock = some g) => show g ≠ w14.heap.size from by have := (Y2.out.lt g e).2; omega)
      have a3 : Below w14.heap.size w14 (w14.alloc (.cells #[.slice none 0 0, .slice none 0 0] 24)) := ((Below.refl w14.heap.size w14).alloc (by first | exact Nat.le_refl _ | (simp only [World.size_alloc]; omega)) (.cells #[.slice none 0 0, .slice none 0 0] 24))
      have M_new14 := (Blk.new w14 #[.slice none 0 0, .slice none 0 0] 24)
      have KM_014 := Lib.hid M_new14
      clear M_new14
      have V_15 := Lib.hid (V_14.out.below a3)
      clear V_14
      have U_15 := Lib.hid (U_14.out.below a3)
      clear U_14
      have V'_15 := Lib.hid (V'_14.out.below a3)
      clear V'_14
      have U'_15 := Lib.hid (U'_14.out.below a3)
      clear U'_14
      have X1_15 := Lib.hid (row_below X1_14.out a3)
      clear X1_14
      have X2_15 := Lib.hid (row_below X2_14.out a3)
      clear X2_14
      have RB_15 := Lib.hid (RB_14.out.trans (a3.mono RB_14.out.size))
      clear RB_14
      have Z1_15 := Lib.hid (row_below Z1_14.out a3)
      clear Z1_14
      have Z2_15 := Lib.hid (row_below Z2_14.out a3)
      clear Z2_14
      have Y1_15 := Lib.hid (row_below Y1.out a3)
      clear Y1
      have Y2_15 := Lib.hid (row_below Y2.out a3)
      clear Y2
      have KT_15 := Lib.hid (KT_14.out.below a3 KT_14.out.lt)
      clear KT_14
      have KO_15 := Lib.hid (KO_14.out.below a3 KO_14.out.lt)
      clear KO_14
      have KJ_15 := Lib.hid (KJ_14.out.below a3 KJ_14.out.lt)
      clear KJ_14
      have B_15 := Lib.hid (B_14.out.trans (a3.mono B_14.out.size))
      clear B_14
      clear a3
      generalize (w14.alloc (.cells #[.slice none 0 0, .slice none 0 0] 24)) = w15 at V_15 U_15 V'_15 U'_15 X1_15 X2_15 RB_15 Z1_15 Z2_15 Y1_15 Y2_15 KT_15 KO_15 KJ_15 KM_014 B_15 ⊢
      try go_simp
      refine hK.out _ _ (HS12.out _ RB_15.out) (fun hHeld => ?_)
      clear hK
      try simp only [Act.put, List.setIfInBounds_toArray, List.set_cons_zero, List.set_cons_succ]
      try (first | (refine take_yes (i := 0) (v := ?_) rfl (by kernel_rfl) (by decide +kernel) (by decide +kernel) (fun _ _ _ h => h) (by rfl) ?_ (by assumption) ?_; rotate_left; intro w hSw; (try dsimp only at hSw); go_simp; with_reducible rfl; simp only [Act.put, List.setIfInBounds_toArray, List.set_cons_zero, List.set_cons_succ]) | (refine take_no (i := 0) rfl (by kernel_rfl) (by decide +kernel) (by decide +kernel) (fun _ _ _ h => h) (by rfl) (by assumption) ?_; simp only [Act.put, List.setIfInBounds_toArray, List.set_cons_zero, List.set_cons_succ]))
      try (first | (refine take_yes (i := 1) (v := ?_) rfl (by kernel_rfl) (by decide +kernel) (by decide +kernel) (fun _ _ _ h => h) (by rfl) ?_ (by assumption) ?_; rotate_left; intro w hSw; (try dsimp only at hSw); go_simp; with_reducible rfl; simp only [Act.put, List.setIfInBounds_toArray, List.set_cons_zero, List.set_cons_succ]) | (refine take_no (i := 1) rfl (by kernel_rfl) (by decide +kernel) (by decide +kernel) (fun _ _ _ h => h) (by rfl) (by assumption) ?_; simp only [Act.put, List.setIfInBounds_toArray, List.set_cons_zero, List.set_cons_succ]))
      refine take_this (i := 5) (by decide +kernel) rfl (by rfl) (fun K hK => ?_)
      have f0 := KM_014.out.frozen 0
      have e0 : w15.cell? ⟨w14.heap.size, 0, none⟩ = some (.slice none 0 0) := KM_014.out.cell 0
      have f1 := KM_014.out.frozen 1
      have e1 : w15.cell? ⟨w14.heap.size, 1, none⟩ = some (.slice none 0 0) := KM_014.out.cell 1
      go_simp
      clear f0 e0 f1 e1
      have RB_16 := Lib.hid ((RB_15.out.setCell (p := ⟨w14.heap.size, 0, none⟩) (by show w11.heap.size ≤ w14.heap.size; omega) (.slice ya2 P2.length yc2)).setCell (p := ⟨w14.heap.size, 1, none⟩) (by show w11.heap.size ≤ w14.heap.size; omega) (.slice yb2 Q2.length yd2))
      have KM_16 := Lib.hid ((KM_014.out.set 0 (.slice ya2 P2.length yc2)).set 1 (.slice yb2 Q2.length yd2))
      have V_16 := Lib.hid (V_o12.out.below RB_16.out)
      have U_16 := Lib.hid (U_o12.out.below RB_16.out)
      have V'_16 := Lib.hid (V'_o12.out.below RB_16.out)
      have U'_16 := Lib.hid (U'_o12.out.below RB_16.out)
      have X1_16 := Lib.hid (row_below X1_o12.out RB_16.out)
      have X2_16 := Lib.hid (row_below X2_o12.out RB_16.out)
      have Z1_16 := Lib.hid (row_other (row_other Z1_15.out (p := ⟨w14.heap.size, 0, none⟩) neZ1.out (.slice ya2 P2.length yc2)) (p := ⟨w14.heap.size, 1, none⟩) neZ1.out (.slice yb2 Q2.length yd2))
      have Z2_16 := Lib.hid (row_other (row_other Z2_15.out (p := ⟨w14.heap.size, 0, none⟩) neZ2.out (.slice ya2 P2.length yc2)) (p := ⟨w14.heap.size, 1, none⟩) neZ2.out (.slice yb2 Q2.length yd2))
      have Y1_16 := Lib.hid (row_other (row_other Y1_15.out (p := ⟨w14.heap.size, 0, none⟩) neY1.out (.slice ya2 P2.length yc2)) (p := ⟨w14.heap.size, 1, none⟩) neY1.out (.slice yb2 Q2.length yd2))
      have Y2_16 := Lib.hid (row_other (row_other Y2_15.out (p := ⟨w14.heap.size, 0, none⟩) neY2.out (.slice ya2 P2.length yc2)) (p := ⟨w14.heap.size, 1, none⟩) neY2.out (.slice yb2 Q2.length yd2))
      have KT_16 := Lib.hid (KT_o12.out.below RB_16.out KT_o12.out.lt)
      have KO_16 := Lib.hid (KO_o12.out.below RB_16.out KO_o12.out.lt)
      have KJ_16 := Lib.hid (KJ_o12.out.below RB_16.out KJ_o12.out.lt)
      have B_16 := Lib.hid (B_o12.out.trans (RB_16.out.mono B_o12.out.size))
      clear V_15 U_15 V'_15 U'_15 X1_15 X2_15 RB_15 Z1_15 Z2_15 Y1_15 Y2_15 KT_15 KO_15 KJ_15 KM_014 B_15
      clear V_o12 U_o12 V'_o12 U'_o12 X1_o12 X2_o12 KT_o12 KO_o12 KJ_o12 B_o12 neZ1 neZ2 neY1 neY2 gB
      generalize ((w15.setCell ⟨w14.heap.size, 0, none⟩ (.slice ya2 P2.length yc2)).setCell ⟨w14.heap.size, 1, none⟩ (.slice yb2 Q2.length yd2)) = w16 at RB_16 V_16 U_16 V'_16 U'_16 X1_16 X2_16 Z1_16 Z2_16 Y1_16 Y2_16 KM_16 KT_16 KO_16 KJ_16 B_16 ⊢
      try go_simp
      refine hK.out _ _ (HS12.out _ RB_16.out) (fun hHeld => ?_)
      clear hK
      try simp only [Act.put, List.setIfInBounds_toArray, List.set_cons_zero, List.set_cons_succ]
      refine wpAnyH_done (by decide +kernel) ?_ _
      clear hHeld HS12 RB_16
      have lM_16 : w14.heap.size < w16.heap.size := KM_16.out.lt
      have cM_0_16 : w16.cell? ⟨w14.heap.size, 0, none⟩ = some (.slice ya2 P2.length yc2) := KM_16.out.cell 0
      have cM_1_16 : w16.cell? ⟨w14.heap.size, 1, none⟩ = some (.slice yb2 Q2.length yd2) := KM_16.out.cell 1
      go_wp2_with fail
      clear lM_16 cM_0_16 cM_1_16
      refine (ahead_ex2 P2 Q2 _ _ s ⟨#[]⟩ false _ (Lst.of_row Y1_16.out) (Lst.of_row Y2_16.out) ZP2.out ZQ2.out HS.out HJ2.out).mono ?_
      rintro e w17 ⟨rfl, b17⟩
      have V_17 := Lib.hid (V_16.out.below b17)
      clear V_16
      have U_17 := Lib.hid (U_16.out.below b17)
      clear U_16
      have V'_17 := Lib.hid (V'_16.out.below b17)
      clear V'_16
      have U'_17 := Lib.hid (U'_16.out.below b17)
      clear U'_16
      have X1_17 := Lib.hid (row_below X1_16.out b17)
      clear X1_16
      have X2_17 := Lib.hid (row_below X2_16.out b17)
      clear X2_16
      have Z1_17 := Lib.hid (row_below Z1_16.out b17)
      clear Z1_16
      have Z2_17 := Lib.hid (row_below Z2_16.out b17)
      clear Z2_16
      have Y1_17 := Lib.hid (row_below Y1_16.out b17)
      clear Y1_16
      have Y2_17 := Lib.hid (row_below Y2_16.out b17)
      clear Y2_16
      have KM_17 := Lib.hid (KM_16.out.below b17 KM_16.out.lt)
      clear KM_16
      have KT_17 := Lib.hid (KT_16.out.below b17 KT_16.out.lt)
      clear KT_16
      have KO_17 := Lib.hid (KO_16.out.below b17 KO_16.out.lt)
      clear KO_16
      have KJ_17 := Lib.hid (KJ_16.out.below b17 KJ_16.out.lt)
      clear KJ_16
      have B_17 := Lib.hid (B_16.out.trans (b17.mono B_16.out.size))
      clear B_16
      clear b17
      have lJ_17 : w7.heap.size < w17.heap.size := KJ_17.out.lt
      have cJ_0_17 : w17.cell? ⟨w7.heap.size, 0, none⟩ = some (.slice xa P.length xc) := KJ_17.out.cell 0
      have cJ_1_17 : w17.cell? ⟨w7.heap.size, 1, none⟩ = some (.slice ya Q.length yc) := KJ_17.out.cell 1
      go_wp2_with fail
      have hss : (s.toList == s.toList) = true := beq_self_eq_true _
      have hcc : (r2.toList == r2.toList) = true := beq_self_eq_true _
      clear lJ_17 cJ_0_17 cJ_1_17
      refine (check_ex P Q _ _ 0 _ (Lst.of_row X1_17.out) (Lst.of_row X2_17.out) ZP.out ZQ.out HJ0.out).mono ?_
      rintro e w18 ⟨rfl, b18⟩
      have V_18 := Lib.hid (V_17.out.below b18)
      clear V_17
      have U_18 := Lib.hid (U_17.out.below b18)
      clear U_17
      have V'_18 := Lib.hid (V'_17.out.below b18)
      clear V'_17
      have U'_18 := Lib.hid (U'_17.out.below b18)
      clear U'_17
      have X1_18 := Lib.hid (row_below X1_17.out b18)
      clear X1_17
      have X2_18 := Lib.hid (row_below X2_17.out b18)
      clear X2_17
      have Z1_18 := Lib.hid (row_below Z1_17.out b18)
      clear Z1_17
      have Z2_18 := Lib.hid (row_below Z2_17.out b18)
      clear Z2_17
      have Y1_18 := Lib.hid (row_below Y1_17.out b18)
      clear Y1_17
      have Y2_18 := Lib.hid (row_below Y2_17.out b18)
      clear Y2_17
      have KM_18 := Lib.hid (KM_17.out.below b18 KM_17.out.lt)
      clear KM_17
      have KT_18 := Lib.hid (KT_17.out.below b18 KT_17.out.lt)
      clear KT_17
      have KO_18 := Lib.hid (KO_17.out.below b18 KO_17.out.lt)
      clear KO_17
      have KJ_18 := Lib.hid (KJ_17.out.below b18 KJ_17.out.lt)
      clear KJ_17
      have B_18 := Lib.hid (B_17.out.trans (b18.mono B_17.out.size))
      clear B_17
      clear b18
      go_wp2
      go_ret
      exact ⟨rfl, B_18.out⟩
    · go_simp
      have gB := RB_13.out.size
      have neZ1 := Lib.hid (fun g (e : (.slice za b.length zc : Value).ownBlock = some g) => show g ≠ w13.heap.size from by have := (Z1.out.lt g e).2; omega)
      have neZ2 := Lib.hid (fun g (e : (.slice wa a.length wc : Value).ownBlock = some g) => show g ≠ w13.heap.size from by have := (Z2.out.lt g e).2; omega)
      have a3 : Below w13.heap.size w13 (w13.alloc (.cells #[.slice none 0 0, .slice none 0 0] 24)) := ((Below.refl w13.heap.size w13).alloc (by first | exact Nat.le_refl _ | (simp only [World.size_alloc]; omega)) (.cells #[.slice none 0 0, .slice none 0 0] 24))
      have M_new13 := (Blk.new w13 #[.slice none 0 0, .slice none 0 0] 24)
      have KM_013 := Lib.hid M_new13
      clear M_new13
      have V_14 := Lib.hid (V_13.out.below a3)
      clear V_13
      have U_14 := Lib.hid (U_13.out.below a3)
      clear U_13
      have V'_14 := Lib.hid (V'_13.out.below a3)
      clear V'_13
      have U'_14 := Lib.hid (U'_13.out.below a3)
      clear U'_13
      have X1_14 := Lib.hid (row_below X1_13.out a3)
      clear X1_13
      have X2_14 := Lib.hid (row_below X2_13.out a3)
      clear X2_13
      have RB_14 := Lib.hid (RB_13.out.trans (a3.mono RB_13.out.size))
      clear RB_13
      have Z1_14 := Lib.hid (row_below Z1.out a3)
      clear Z1
      have Z2_14 := Lib.hid (row_below Z2.out a3)
      clear Z2
      have KT_14 := Lib.hid (KT_13.out.below a3 KT_13.out.lt)
      clear KT_13
      have KO_14 := Lib.hid (KO_13.out.below a3 KO_13.out.lt)
      clear KO_13
      have KJ_14 := Lib.hid (KJ_13.out.below a3 KJ_13.out.lt)
      clear KJ_13
      have B_14 := Lib.hid (B_13.out.trans (a3.mono B_13.out.size))
      clear B_13
      clear a3
      generalize (w13.alloc (.cells #[.slice none 0 0, .slice none 0 0] 24)) = w14 at V_14 U_14 V'_14 U'_14 X1_14 X2_14 RB_14 Z1_14 Z2_14 KT_14 KO_14 KJ_14 KM_013 B_14 ⊢
      try go_simp
      refine hK.out _ _ (HS12.out _ RB_14.out) (fun hHeld => ?_)
      clear hK
      try simp only [Act.put, List.setIfInBounds_toArray, List.set_cons_zero, List.set_cons_succ]
      try (first | (refine take_yes (i := 0) (v := ?_) rfl (by kernel_rfl) (by decide +kernel) (by decide +kernel) (fun _ _ _ h => h) (by rfl) ?_ (by assumption) ?_; rotate_left; intro w hSw; (try dsimp only at hSw); go_simp; with_reducible rfl; simp only [Act.put, List.setIfInBounds_toArray, List.set_cons_zero, List.set_cons_succ]) | (refine take_no (i := 0) rfl (by kernel_rfl) (by decide +kernel) (by decide +kernel) (fun _ _ _ h => h) (by rfl) (by assumption) ?_; simp only [Act.put, List.setIfInBounds_toArray, List.set_cons_zero, List.set_cons_succ]))
      try (first | (refine take_yes (i := 1) (v := ?_) rfl (by kernel_rfl) (by decide +kernel) (by decide +kernel) (fun _ _ _ h => h) (by rfl) ?_ (by assumption) ?_; rotate_left; intro w hSw; (try dsimp only at hSw); go_simp; with_reducible rfl; simp only [Act.put, List.setIfInBounds_toArray, List.set_cons_zero, List.set_cons_succ]) | (refine take_no (i := 1) rfl (by kernel_rfl) (by decide +kernel) (by decide +kernel) (fun _ _ _ h => h) (by rfl) (by assumption) ?_; simp only [Act.put, List.setIfInBounds_toArray, List.set_cons_zero, List.set_cons_succ]))
      refine take_this (i := 3) (by decide +kernel) rfl (by rfl) (fun K hK => ?_)
      go_simp
      have gK := KM_013.out.lt
      go_at_call 28
      refine (join_ex a b b a _ _ _ _ P2 Q2 _ V_14.out U_14.out (Lst.of_row Z1_14.out) (Lst.of_row Z2_14.out) ZA.out ZB.out ZB.out ZA.out HP2.out HQ2.out).mono ?_
      rintro e w15 ⟨V3, rfl, ht, b15⟩
      have V_15 := Lib.hid (V_14.out.below b15)
      clear V_14
      have U_15 := Lib.hid (U_14.out.below b15)
      clear U_14
      have V'_15 := Lib.hid (V'_14.out.below b15)
      clear V'_14
      have U'_15 := Lib.hid (U'_14.out.below b15)
      clear U'_14
      have X1_15 := Lib.hid (row_below X1_14.out b15)
      clear X1_14
      have X2_15 := Lib.hid (row_below X2_14.out b15)
      clear X2_14
      have RB_15 := Lib.hid (RB_14.out.trans (b15.mono RB_14.out.size))
      clear RB_14
      have Z1_15 := Lib.hid (row_below Z1_14.out b15)
      clear Z1_14
      have Z2_15 := Lib.hid (row_below Z2_14.out b15)
      clear Z2_14
      have KT_15 := Lib.hid (KT_14.out.below b15 KT_14.out.lt)
      clear KT_14
      have KO_15 := Lib.hid (KO_14.out.below b15 KO_14.out.lt)
      clear KO_14
      have KJ_15 := Lib.hid (KJ_14.out.below b15 KJ_14.out.lt)
      clear KJ_14
      have KM_15 := Lib.hid (KM_013.out.below b15 KM_013.out.lt)
      clear KM_013
      have B_15 := Lib.hid (B_14.out.trans (b15.mono B_14.out.size))
      clear B_14
      clear b15
      obtain ⟨x1, x2, rfl, q3, q4⟩ := ht
      obtain ⟨ya2, yc2, rfl⟩ := row_slice q3
      obtain ⟨yb2, yd2, rfl⟩ := row_slice q4
      have Y1 := Lib.hid q3
      clear q3
      have Y2 := Lib.hid q4
      clear q4
      have neY1 := Lib.hid (fun g (e : (.slice ya2 P2.length yc2 : Value).ownBlock = some g) => show g ≠ w13.heap.size from by have := (Y1.out.lt g e).1; omega)
      have neY2 := Lib.hid (fun g (e : (.slice yb2 Q2.length yd2 : Value).ownBlock = some g) => show g ≠ w13.heap.size from by have := (Y2.out.lt g e).1; omega)
      clear gK
      try go_simp
      refine hK.out _ _ (HS12.out _ RB_15.out) (fun hHeld => ?_)
      clear hK
      try simp only [Act.put, List.setIfInBounds_toArray, List.set_cons_zero, List.set_cons_succ]
      try (first | (refine take_yes (i := 0) (v := ?_) rfl (by kernel_rfl) (by decide +kernel) (by decide +kernel) (fun _ _ _ h => h) (by rfl) ?_ (by assumption) ?_; rotate_left; intro w hSw; (try dsimp only at hSw); go_simp; with_reducible rfl; simp only [Act.put, List.setIfInBounds_toArray, List.set_cons_zero, List.set_cons_succ]) | (refine take_no (i := 0) rfl (by kernel_rfl) (by decide +kernel) (by decide +kernel) (fun _ _ _ h => h) (by rfl) (by assumption) ?_; simp only [Act.put, List.setIfInBounds_toArray, List.set_cons_zero, List.set_cons_succ]))
      try (first | (refine take_yes (i := 1) (v := ?_) rfl (by kernel_rfl) (by decide +kernel) (by decide +kernel) (fun _ _ _ h => h) (by rfl) ?_ (by assumption) ?_; rotate_left; intro w hSw; (try dsimp only at hSw); go_simp; with_reducible rfl; simp only [Act.put, List.setIfInBounds_toArray, List.set_cons_zero, List.set_cons_succ]) | (refine take_no (i := 1) rfl (by kernel_rfl) (by decide +kernel) (by decide +kernel) (fun _ _ _ h => h) (by rfl) (by assumption) ?_; simp only [Act.put, List.setIfInBounds_toArray, List.set_cons_zero, List.set_cons_succ]))
      refine take_this (i := 5) (by decide +kernel) rfl (by rfl) (fun K hK => ?_)
      have f0 := KM_15.out.frozen 0
      have e0 : w15.cell? ⟨w13.heap.size, 0, none⟩ = some (.slice none 0 0) := KM_15.out.cell 0
      have f1 := KM_15.out.frozen 1
      have e1 : w15.cell? ⟨w13.heap.size, 1, none⟩ = some (.slice none 0 0) := KM_15.out.cell 1
      go_simp
      clear f0 e0 f1 e1
      have RB_16 := Lib.hid ((RB_15.out.setCell (p := ⟨w13.heap.size, 0, none⟩) (by show w11.heap.size ≤ w13.heap.size; omega) (.slice ya2 P2.length yc2)).setCell (p := ⟨w13.heap.size, 1, none⟩) (by show w11.heap.size ≤ w13.heap.size; omega) (.slice yb2 Q2.length yd2))
      have KM_16 := Lib.hid ((KM_15.out.set 0 (.slice ya2 P2.length yc2)).set 1 (.slice yb2 Q2.length yd2))
      have V_16 := Lib.hid (V_o12.out.below RB_16.out)
      have U_16 := Lib.hid (U_o12.out.below RB_16.out)
      have V'_16 := Lib.hid (V'_o12.out.below RB_16.out)
      have U'_16 := Lib.hid (U'_o12.out.below RB_16.out)
      have X1_16 := Lib.hid (row_below X1_o12.out RB_16.out)
      have X2_16 := Lib.hid (row_below X2_o12.out RB_16.out)
      have Z1_16 := Lib.hid (row_other (row_other Z1_15.out (p := ⟨w13.heap.size, 0, none⟩) neZ1.out (.slice ya2 P2.length yc2)) (p := ⟨w13.heap.size, 1, none⟩) neZ1.out (.slice yb2 Q2.length yd2))
      have Z2_16 := Lib.hid (row_other (row_other Z2_15.out (p := ⟨w13.heap.size, 0, none⟩) neZ2.out (.slice ya2 P2.length yc2)) (p := ⟨w13.heap.size, 1, none⟩) neZ2.out (.slice yb2 Q2.length yd2))
      have Y1_16 := Lib.hid (row_other (row_other Y1.out (p := ⟨w13.heap.size, 0, none⟩) neY1.out (.slice ya2 P2.length yc2)) (p := ⟨w13.heap.size, 1, none⟩) neY1.out (.slice yb2 Q2.length yd2))
      have Y2_16 := Lib.hid (row_other (row_other Y2.out (p := ⟨w13.heap.size, 0, none⟩) neY2.out (.slice ya2 P2.length yc2)) (p := ⟨w13.heap.size, 1, none⟩) neY2.out (.slice yb2 Q2.length yd2))
      have KT_16 := Lib.hid (KT_o12.out.below RB_16.out KT_o12.out.lt)
      have KO_16 := Lib.hid (KO_o12.out.below RB_16.out KO_o12.out.lt)
      have KJ_16 := Lib.hid (KJ_o12.out.below RB_16.out KJ_o12.out.lt)
      have B_16 := Lib.hid (B_o12.out.trans (RB_16.out.mono B_o12.out.size))
      clear V_15 U_15 V'_15 U'_15 X1_15 X2_15 RB_15 Z1_15 Z2_15 Y1 Y2 KT_15 KO_15 KJ_15 KM_15 B_15
      clear V_o12 U_o12 V'_o12 U'_o12 X1_o12 X2_o12 KT_o12 KO_o12 KJ_o12 B_o12 neZ1 neZ2 neY1 neY2 gB
      generalize ((w15.setCell ⟨w13.heap.size, 0, none⟩ (.slice ya2 P2.length yc2)).setCell ⟨w13.heap.size, 1, none⟩ (.slice yb2 Q2.length yd2)) = w16 at RB_16 V_16 U_16 V'_16 U'_16 X1_16 X2_16 Z1_16 Z2_16 Y1_16 Y2_16 KM_16 KT_16 KO_16 KJ_16 B_16 ⊢
      try go_simp
      refine hK.out _ _ (HS12.out _ RB_16.out) (fun hHeld => ?_)
      clear hK
      try simp only [Act.put, List.setIfInBounds_toArray, List.set_cons_zero, List.set_cons_succ]
      refine wpAnyH_done (by decide +kernel) ?_ _
      clear hHeld HS12 RB_16
      have lM_16 : w13.heap.size < w16.heap.size := KM_16.out.lt
      have cM_0_16 : w16.cell? ⟨w13.heap.size, 0, none⟩ = some (.slice ya2 P2.length yc2) := KM_16.out.cell 0
      have cM_1_16 : w16.cell? ⟨w13.heap.size, 1, none⟩ = some (.slice yb2 Q2.length yd2) := KM_16.out.cell 1
      go_wp2_with fail
      clear lM_16 cM_0_16 cM_1_16
      refine (ahead_ex2 P2 Q2 _ _ s ⟨#[]⟩ false _ (Lst.of_row Y1_16.out) (Lst.of_row Y2_16.out) ZP2.out ZQ2.out HS.out HJ2.out).mono ?_
      rintro e w17 ⟨rfl, b17⟩
      have V_17 := Lib.hid (V_16.out.below b17)
      clear V_16
      have U_17 := Lib.hid (U_16.out.below b17)
      clear U_16
      have V'_17 := Lib.hid (V'_16.out.below b17)
      clear V'_16
      have U'_17 := Lib.hid (U'_16.out.below b17)
      clear U'_16
      have X1_17 := Lib.hid (row_below X1_16.out b17)
      clear X1_16
      have X2_17 := Lib.hid (row_below X2_16.out b17)
      clear X2_16
      have Z1_17 := Lib.hid (row_below Z1_16.out b17)
      clear Z1_16
      have Z2_17 := Lib.hid (row_below Z2_16.out b17)
      clear Z2_16
      have Y1_17 := Lib.hid (row_below Y1_16.out b17)
      clear Y1_16
      have Y2_17 := Lib.hid (row_below Y2_16.out b17)
      clear Y2_16
      have KM_17 := Lib.hid (KM_16.out.below b17 KM_16.out.lt)
      clear KM_16
      have KT_17 := Lib.hid (KT_16.out.below b17 KT_16.out.lt)
      clear KT_16
      have KO_17 := Lib.hid (KO_16.out.below b17 KO_16.out.lt)
      clear KO_16
      have KJ_17 := Lib.hid (KJ_16.out.below b17 KJ_16.out.lt)
      clear KJ_16
      have B_17 := Lib.hid (B_16.out.trans (b17.mono B_16.out.size))
      clear B_16
      clear b17
      have lJ_17 : w7.heap.size < w17.heap.size := KJ_17.out.lt
      have cJ_0_17 : w17.cell? ⟨w7.heap.size, 0, none⟩ = some (.slice xa P.length xc) := KJ_17.out.cell 0
      have cJ_1_17 : w17.cell? ⟨w7.heap.size, 1, none⟩ = some (.slice ya Q.length yc) := KJ_17.out.cell 1
      go_wp2_with fail
      have hss : (s.toList == s.toList) = true := beq_self_eq_true _
      have hcc : (r2.toList == r2.toList) = true := beq_self_eq_true _
      clear lJ_17 cJ_0_17 cJ_1_17
      refine (check_ex P Q _ _ 0 _ (Lst.of_row X1_17.out) (Lst.of_row X2_17.out) ZP.out ZQ.out HJ0.out).mono ?_
      rintro e w18 ⟨rfl, b18⟩
      have V_18 := Lib.hid (V_17.out.below b18)
      clear V_17
      have U_18 := Lib.hid (U_17.out.below b18)
      clear U_17
      have V'_18 := Lib.hid (V'_17.out.below b18)
      clear V'_17
      have U'_18 := Lib.hid (U'_17.out.below b18)
      clear U'_17
      have X1_18 := Lib.hid (row_below X1_17.out b18)
      clear X1_17
      have X2_18 := Lib.hid (row_below X2_17.out b18)
      clear X2_17
      have Z1_18 := Lib.hid (row_below Z1_17.out b18)
      clear Z1_17
      have Z2_18 := Lib.hid (row_below Z2_17.out b18)
      clear Z2_17
      have Y1_18 := Lib.hid (row_below Y1_17.out b18)
      clear Y1_17
      have Y2_18 := Lib.hid (row_below Y2_17.out b18)
      clear Y2_17
      have KM_18 := Lib.hid (KM_17.out.below b18 KM_17.out.lt)
      clear KM_17
      have KT_18 := Lib.hid (KT_17.out.below b18 KT_17.out.lt)
      clear KT_17
      have KO_18 := Lib.hid (KO_17.out.below b18 KO_17.out.lt)
      clear KO_17
      have KJ_18 := Lib.hid (KJ_17.out.below b18 KJ_17.out.lt)
      clear KJ_17
      have B_18 := Lib.hid (B_17.out.trans (b18.mono B_17.out.size))
      clear B_17
      clear b18
      go_wp2
      go_ret
      exact ⟨rfl, B_18.out⟩
  · go_simp
    have gB := RB0.out.size
    have a3 : Below w12.heap.size w12 (w12.alloc (.cells #[.slice none 0 0, .slice none 0 0] 24)) := ((Below.refl w12.heap.size w12).alloc (by first | exact Nat.le_refl _ | (simp only [World.size_alloc]; omega)) (.cells #[.slice none 0 0, .slice none 0 0] 24))
    have M_new12 := (Blk.new w12 #[.slice none 0 0, .slice none 0 0] 24)
    have KM_012 := Lib.hid M_new12
    clear M_new12
    have V_13 := Lib.hid (V_12.out.below a3)
    clear V_12
    have U_13 := Lib.hid (U_12.out.below a3)
    clear U_12
    have V'_13 := Lib.hid (V'_12.out.below a3)
    clear V'_12
    have U'_13 := Lib.hid (U'_12.out.below a3)
    clear U'_12
    have X1_13 := Lib.hid (row_below X1_12.out a3)
    clear X1_12
    have X2_13 := Lib.hid (row_below X2_12.out a3)
    clear X2_12
    have RB_13 := Lib.hid (RB0.out.trans (a3.mono RB0.out.size))
    clear RB0
    have KT_13 := Lib.hid (KT_12.out.below a3 KT_12.out.lt)
    clear KT_12
    have KO_13 := Lib.hid (KO_12.out.below a3 KO_12.out.lt)
    clear KO_12
    have KJ_13 := Lib.hid (KJ_12.out.below a3 KJ_12.out.lt)
    clear KJ_12
    have B_13 := Lib.hid (B_12.out.trans (a3.mono B_12.out.size))
    clear B_12
    clear a3
    generalize (w12.alloc (.cells #[.slice none 0 0, .slice none 0 0] 24)) = w13 at V_13 U_13 V'_13 U'_13 X1_13 X2_13 RB_13 KT_13 KO_13 KJ_13 KM_012 B_13 ⊢
    try go_simp
    refine hK.out _ _ (HS12.out _ RB_13.out) (fun hHeld => ?_)
    clear hK
    try simp only [Act.put, List.setIfInBounds_toArray, List.set_cons_zero, List.set_cons_succ]
    try (first | (refine take_yes (i := 0) (v := ?_) rfl (by kernel_rfl) (by decide +kernel) (by decide +kernel) (fun _ _ _ h => h) (by rfl) ?_ (by assumption) ?_; rotate_left; intro w hSw; (try dsimp only at hSw); go_simp; with_reducible rfl; simp only [Act.put, List.setIfInBounds_toArray, List.set_cons_zero, List.set_cons_succ]) | (refine take_no (i := 0) rfl (by kernel_rfl) (by decide +kernel) (by decide +kernel) (fun _ _ _ h => h) (by rfl) (by assumption) ?_; simp only [Act.put, List.setIfInBounds_toArray, List.set_cons_zero, List.set_cons_succ]))
    try (first | (refine take_yes (i := 1) (v := ?_) rfl (by kernel_rfl) (by decide +kernel) (by decide +kernel) (fun _ _ _ h => h) (by rfl) ?_ (by assumption) ?_; rotate_left; intro w hSw; (try dsimp only at hSw); go_simp; with_reducible rfl; simp only [Act.put, List.setIfInBounds_toArray, List.set_cons_zero, List.set_cons_succ]) | (refine take_no (i := 1) rfl (by kernel_rfl) (by decide +kernel) (by decide +kernel) (fun _ _ _ h => h) (by rfl) (by assumption) ?_; simp only [Act.put, List.setIfInBounds_toArray, List.set_cons_zero, List.set_cons_succ]))
    refine take_this (i := 2) (by decide +kernel) rfl (by rfl) (fun K hK => ?_)
    go_simp
    have gK := KM_012.out.lt
    go_at_call 27
    refine (inv_ex a b _ _ 0 _ V_13.out U_13.out ZA.out ZB.out HN.out HN'.out H0T.out).mono ?_
    rintro e w14 ⟨V2, rfl, ht, b14⟩
    have V_14 := Lib.hid (V_13.out.below b14)
    clear V_13
    have U_14 := Lib.hid (U_13.out.below b14)
    clear U_13
    have V'_14 := Lib.hid (V'_13.out.below b14)
    clear V'_13
    have U'_14 := Lib.hid (U'_13.out.below b14)
    clear U'_13
    have X1_14 := Lib.hid (row_below X1_13.out b14)
    clear X1_13
    have X2_14 := Lib.hid (row_below X2_13.out b14)
    clear X2_13
    have RB_14 := Lib.hid (RB_13.out.trans (b14.mono RB_13.out.size))
    clear RB_13
    have KT_14 := Lib.hid (KT_13.out.below b14 KT_13.out.lt)
    clear KT_13
    have KO_14 := Lib.hid (KO_13.out.below b14 KO_13.out.lt)
    clear KO_13
    have KJ_14 := Lib.hid (KJ_13.out.below b14 KJ_13.out.lt)
    clear KJ_13
    have KM_14 := Lib.hid (KM_012.out.below b14 KM_012.out.lt)
    clear KM_012
    have B_14 := Lib.hid (B_13.out.trans (b14.mono B_13.out.size))
    clear B_13
    clear b14
    rw [okL_yes rfl, okL_yes rfl] at ht
    obtain ⟨x1, x2, rfl, q1, q2⟩ := ht
    obtain ⟨za, zc, rfl⟩ := row_slice q1
    obtain ⟨wa, wc, rfl⟩ := row_slice q2
    have Z1 := Lib.hid q1
    clear q1
    have Z2 := Lib.hid q2
    clear q2
    have neZ1 := Lib.hid (fun g (e : (.slice za b.length zc : Value).ownBlock = some g) => show g ≠ w12.heap.size from by have := (Z1.out.lt g e).1; omega)
    have neZ2 := Lib.hid (fun g (e : (.slice wa a.length wc : Value).ownBlock = some g) => show g ≠ w12.heap.size from by have := (Z2.out.lt g e).1; omega)
    clear gK
    try go_simp
    refine hK.out _ _ (HS12.out _ RB_14.out) (fun hHeld => ?_)
    clear hK
    try simp only [Act.put, List.setIfInBounds_toArray, List.set_cons_zero, List.set_cons_succ]
    try (first | (refine take_yes (i := 0) (v := ?_) rfl (by kernel_rfl) (by decide +kernel) (by decide +kernel) (fun _ _ _ h => h) (by rfl) ?_ (by assumption) ?_; rotate_left; intro w hSw; (try dsimp only at hSw); go_simp; with_reducible rfl; simp only [Act.put, List.setIfInBounds_toArray, List.set_cons_zero, List.set_cons_succ]) | (refine take_no (i := 0) rfl (by kernel_rfl) (by decide +kernel) (by decide +kernel) (fun _ _ _ h => h) (by rfl) (by assumption) ?_; simp only [Act.put, List.setIfInBounds_toArray, List.set_cons_zero, List.set_cons_succ]))
    try (first | (refine take_yes (i := 1) (v := ?_) rfl (by kernel_rfl) (by decide +kernel) (by decide +kernel) (fun _ _ _ h => h) (by rfl) ?_ (by assumption) ?_; rotate_left; intro w hSw; (try dsimp only at hSw); go_simp; with_reducible rfl; simp only [Act.put, List.setIfInBounds_toArray, List.set_cons_zero, List.set_cons_succ]) | (refine take_no (i := 1) rfl (by kernel_rfl) (by decide +kernel) (by decide +kernel) (fun _ _ _ h => h) (by rfl) (by assumption) ?_; simp only [Act.put, List.setIfInBounds_toArray, List.set_cons_zero, List.set_cons_succ]))
    refine take_this (i := 3) (by decide +kernel) rfl (by rfl) (fun K hK => ?_)
    go_simp
    have gK := KM_14.out.lt
    go_at_call 28
    refine (join_ex a b b a _ _ _ _ P2 Q2 _ V_14.out U_14.out (Lst.of_row Z1.out) (Lst.of_row Z2.out) ZA.out ZB.out ZB.out ZA.out HP2.out HQ2.out).mono ?_
    rintro e w15 ⟨V3, rfl, ht, b15⟩
    have V_15 := Lib.hid (V_14.out.below b15)
    clear V_14
    have U_15 := Lib.hid (U_14.out.below b15)
    clear U_14
    have V'_15 := Lib.hid (V'_14.out.below b15)
    clear V'_14
    have U'_15 := Lib.hid (U'_14.out.below b15)
    clear U'_14
    have X1_15 := Lib.hid (row_below X1_14.out b15)
    clear X1_14
    have X2_15 := Lib.hid (row_below X2_14.out b15)
    clear X2_14
    have RB_15 := Lib.hid (RB_14.out.trans (b15.mono RB_14.out.size))
    clear RB_14
    have Z1_15 := Lib.hid (row_below Z1.out b15)
    clear Z1
    have Z2_15 := Lib.hid (row_below Z2.out b15)
    clear Z2
    have KT_15 := Lib.hid (KT_14.out.below b15 KT_14.out.lt)
    clear KT_14
    have KO_15 := Lib.hid (KO_14.out.below b15 KO_14.out.lt)
    clear KO_14
    have KJ_15 := Lib.hid (KJ_14.out.below b15 KJ_14.out.lt)
    clear KJ_14
    have KM_15 := Lib.hid (KM_14.out.below b15 KM_14.out.lt)
    clear KM_14
    have B_15 := Lib.hid (B_14.out.trans (b15.mono B_14.out.size))
    clear B_14
    clear b15
    obtain ⟨x1, x2, rfl, q3, q4⟩ := ht
    obtain ⟨ya2, yc2, rfl⟩ := row_slice q3
    obtain ⟨yb2, yd2, rfl⟩ := row_slice q4
    have Y1 := Lib.hid q3
    clear q3
    have Y2 := Lib.hid q4
    clear q4
    have neY1 := Lib.hid (fun g (e : (.slice ya2 P2.length yc2 : Value).ownBlock = some g) => show g ≠ w12.heap.size from by have := (Y1.out.lt g e).1; omega)
    have neY2 := Lib.hid (fun g (e : (.slice yb2 Q2.length yd2 : Value).ownBlock = some g) => show g ≠ w12.heap.size from by have := (Y2.out.lt g e).1; omega)
    clear gK
    try go_simp
    refine hK.out _ _ (HS12.out _ RB_15.out) (fun hHeld => ?_)
    clear hK
    try simp only [Act.put, List.setIfInBounds_toArray, List.set_cons_zero, List.set_cons_succ]
    try (first | (refine take_yes (i := 0) (v := ?_) rfl (by kernel_rfl) (by decide +kernel) (by decide +kernel) (fun _ _ _ h => h) (by rfl) ?_ (by assumption) ?_; rotate_left; intro w hSw; (try dsimp only at hSw); go_simp; with_reducible rfl; simp only [Act.put, List.setIfInBounds_toArray, List.set_cons_zero, List.set_cons_succ]) | (refine take_no (i := 0) rfl (by kernel_rfl) (by decide +kernel) (by decide +kernel) (fun _ _ _ h => h) (by rfl) (by assumption) ?_; simp only [Act.put, List.setIfInBounds_toArray, List.set_cons_zero, List.set_cons_succ]))
    try (first | (refine take_yes (i := 1) (v := ?_) rfl (by kernel_rfl) (by decide +kernel) (by decide +kernel) (fun _ _ _ h => h) (by rfl) ?_ (by assumption) ?_; rotate_left; intro w hSw; (try dsimp only at hSw); go_simp; with_reducible rfl; simp only [Act.put, List.setIfInBounds_toArray, List.set_cons_zero, List.set_cons_succ]) | (refine take_no (i := 1) rfl (by kernel_rfl) (by decide +kernel) (by decide +kernel) (fun _ _ _ h => h) (by rfl) (by assumption) ?_; simp only [Act.put, List.setIfInBounds_toArray, List.set_cons_zero, List.set_cons_succ]))
    refine take_this (i := 5) (by decide +kernel) rfl (by rfl) (fun K hK => ?_)
    have f0 := KM_15.out.frozen 0
    have e0 : w15.cell? ⟨w12.heap.size, 0, none⟩ = some (.slice none 0 0) := KM_15.out.cell 0
    have f1 := KM_15.out.frozen 1
    have e1 : w15.cell? ⟨w12.heap.size, 1, none⟩ = some (.slice none 0 0) := KM_15.out.cell 1
    go_simp
    clear f0 e0 f1 e1
    have RB_16 := Lib.hid ((RB_15.out.setCell (p := ⟨w12.heap.size, 0, none⟩) (by show w11.heap.size ≤ w12.heap.size; omega) (.slice ya2 P2.length yc2)).setCell (p := ⟨w12.heap.size, 1, none⟩) (by show w11.heap.size ≤ w12.heap.size; omega) (.slice yb2 Q2.length yd2))
    have KM_16 := Lib.hid ((KM_15.out.set 0 (.slice ya2 P2.length yc2)).set 1 (.slice yb2 Q2.length yd2))
    have V_16 := Lib.hid (V_o12.out.below RB_16.out)
    have U_16 := Lib.hid (U_o12.out.below RB_16.out)
    have V'_16 := Lib.hid (V'_o12.out.below RB_16.out)
    have U'_16 := Lib.hid (U'_o12.out.below RB_16.out)
    have X1_16 := Lib.hid (row_below X1_o12.out RB_16.out)
    have X2_16 := Lib.hid (row_below X2_o12.out RB_16.out)
    have Z1_16 := Lib.hid (row_other (row_other Z1_15.out (p := ⟨w12.heap.size, 0, none⟩) neZ1.out (.slice ya2 P2.length yc2)) (p := ⟨w12.heap.size, 1, none⟩) neZ1.out (.slice yb2 Q2.length yd2))
    have Z2_16 := Lib.hid (row_other (row_other Z2_15.out (p := ⟨w12.heap.size, 0, none⟩) neZ2.out (.slice ya2 P2.length yc2)) (p := ⟨w12.heap.size, 1, none⟩) neZ2.out (.slice yb2 Q2.length yd2))
    have Y1_16 := Lib.hid (row_other (row_other Y1.out (p := ⟨w12.heap.size, 0, none⟩) neY1.out (.slice ya2 P2.length yc2)) (p := ⟨w12.heap.size, 1, none⟩) neY1.out (.slice yb2 Q2.length yd2))
    have Y2_16 := Lib.hid (row_other (row_other Y2.out (p := ⟨w12.heap.size, 0, none⟩) neY2.out (.slice ya2 P2.length yc2)) (p := ⟨w12.heap.size, 1, none⟩) neY2.out (.slice yb2 Q2.length yd2))
    have KT_16 := Lib.hid (KT_o12.out.below RB_16.out KT_o12.out.lt)
    have KO_16 := Lib.hid (KO_o12.out.below RB_16.out KO_o12.out.lt)
    have KJ_16 := Lib.hid (KJ_o12.out.below RB_16.out KJ_o12.out.lt)
    have B_16 := Lib.hid (B_o12.out.trans (RB_16.out.mono B_o12.out.size))
    clear V_15 U_15 V'_15 U'_15 X1_15 X2_15 RB_15 Z1_15 Z2_15 Y1 Y2 KT_15 KO_15 KJ_15 KM_15 B_15
    clear V_o12 U_o12 V'_o12 U'_o12 X1_o12 X2_o12 KT_o12 KO_o12 KJ_o12 B_o12 neZ1 neZ2 neY1 neY2 gB
    generalize ((w15.setCell ⟨w12.heap.size, 0, none⟩ (.slice ya2 P2.length yc2)).setCell ⟨w12.heap.size, 1, none⟩ (.slice yb2 Q2.length yd2)) = w16 at RB_16 V_16 U_16 V'_16 U'_16 X1_16 X2_16 Z1_16 Z2_16 Y1_16 Y2_16 KM_16 KT_16 KO_16 KJ_16 B_16 ⊢
    try go_simp
    refine hK.out _ _ (HS12.out _ RB_16.out) (fun hHeld => ?_)
    clear hK
    try simp only [Act.put, List.setIfInBounds_toArray, List.set_cons_zero, List.set_cons_succ]
    refine wpAnyH_done (by decide +kernel) ?_ _
    clear hHeld HS12 RB_16
    have lM_16 : w12.heap.size < w16.heap.size := KM_16.out.lt
    have cM_0_16 : w16.cell? ⟨w12.heap.size, 0, none⟩ = some (.slice ya2 P2.length yc2) := KM_16.out.cell 0
    have cM_1_16 : w16.cell? ⟨w12.heap.size, 1, none⟩ = some (.slice yb2 Q2.length yd2) := KM_16.out.cell 1
    go_wp2_with fail
    clear lM_16 cM_0_16 cM_1_16
    refine (ahead_ex2 P2 Q2 _ _ s ⟨#[]⟩ false _ (Lst.of_row Y1_16.out) (Lst.of_row Y2_16.out) ZP2.out ZQ2.out HS.out HJ2.out).mono ?_
    rintro e w17 ⟨rfl, b17⟩
    have V_17 := Lib.hid (V_16.out.below b17)
    clear V_16
    have U_17 := Lib.hid (U_16.out.below b17)
    clear U_16
    have V'_17 := Lib.hid (V'_16.out.below b17)
    clear V'_16
    have U'_17 := Lib.hid (U'_16.out.below b17)
    clear U'_16
    have X1_17 := Lib.hid (row_below X1_16.out b17)
    clear X1_16
    have X2_17 := Lib.hid (row_below X2_16.out b17)
    clear X2_16
    have Z1_17 := Lib.hid (row_below Z1_16.out b17)
    clear Z1_16
    have Z2_17 := Lib.hid (row_below Z2_16.out b17)
    clear Z2_16
    have Y1_17 := Lib.hid (row_below Y1_16.out b17)
    clear Y1_16
    have Y2_17 := Lib.hid (row_below Y2_16.out b17)
    clear Y2_16
    have KM_17 := Lib.hid (KM_16.out.below b17 KM_16.out.lt)
    clear KM_16
    have KT_17 := Lib.hid (KT_16.out.below b17 KT_16.out.lt)
    clear KT_16
    have KO_17 := Lib.hid (KO_16.out.below b17 KO_16.out.lt)
    clear KO_16
    have KJ_17 := Lib.hid (KJ_16.out.below b17 KJ_16.out.lt)
    clear KJ_16
    have B_17 := Lib.hid (B_16.out.trans (b17.mono B_16.out.size))
    clear B_16
    clear b17
    have lJ_17 : w7.heap.size < w17.heap.size := KJ_17.out.lt
    have cJ_0_17 : w17.cell? ⟨w7.heap.size, 0, none⟩ = some (.slice xa P.length xc) := KJ_17.out.cell 0
    have cJ_1_17 : w17.cell? ⟨w7.heap.size, 1, none⟩ = some (.slice ya Q.length yc) := KJ_17.out.cell 1
    go_wp2_with fail
    have hss : (s.toList == s.toList) = true := beq_self_eq_true _
    have hcc : (r2.toList == r2.toList) = true := beq_self_eq_true _
    clear lJ_17 cJ_0_17 cJ_1_17
    refine (check_ex P Q _ _ 0 _ (Lst.of_row X1_17.out) (Lst.of_row X2_17.out) ZP.out ZQ.out HJ0.out).mono ?_
    rintro e w18 ⟨rfl, b18⟩
    have V_18 := Lib.hid (V_17.out.below b18)
    clear V_17
    have U_18 := Lib.hid (U_17.out.below b18)
    clear U_17
    have V'_18 := Lib.hid (V'_17.out.below b18)
    clear V'_17
    have U'_18 := Lib.hid (U'_17.out.below b18)
    clear U'_17
    have X1_18 := Lib.hid (row_below X1_17.out b18)
    clear X1_17
    have X2_18 := Lib.hid (row_below X2_17.out b18)
    clear X2_17
    have Z1_18 := Lib.hid (row_below Z1_17.out b18)
    clear Z1_17
    have Z2_18 := Lib.hid (row_below Z2_17.out b18)
    clear Z2_17
    have Y1_18 := Lib.hid (row_below Y1_17.out b18)
    clear Y1_17
    have Y2_18 := Lib.hid (row_below Y2_17.out b18)
    clear Y2_17
    have KM_18 := Lib.hid (KM_17.out.below b18 KM_17.out.lt)
    clear KM_17
    have KT_18 := Lib.hid (KT_17.out.below b18 KT_17.out.lt)
    clear KT_17
    have KO_18 := Lib.hid (KO_17.out.below b18 KO_17.out.lt)
    clear KO_17
    have KJ_18 := Lib.hid (KJ_17.out.below b18 KJ_17.out.lt)
    clear KJ_17
    have B_18 := Lib.hid (B_17.out.trans (b18.mono B_17.out.size))
    clear B_17
    clear b18
    go_wp2
    go_ret
    exact ⟨rfl, B_18.out⟩

theorem law_joins (a b a' b' : List ByteArray) (v u v' u' : Value) (s : ByteArray) (w : World) (hv : Lst stc w v a) (hu : Lst stc w u b) (hv' : Lst stc w v' a') (hu' : Lst stc w u' b') (hn : NilFine v) (hn' : NilFine u) (hs : s.size ≤ maxLen) :
    Calls Try.prog 6 #[.agg #[v, u], .agg #[v', u'], .string s] w fun e w' => e = .returned (.bool true) ∧ Below w.heap.size w w' := by
  by_cases h1 : (fewB a 210 && fewB b 210) = true
  · by_cases h2 : (fewB a' 210 && fewB b' 210) = true
    · by_cases h0 : checkF a b = 0
      · by_cases h0x : checkF a' b' = 0
        · obtain ⟨⟨r, k⟩, hr⟩ : ∃ p, aheadF a b s = p := ⟨_, rfl⟩
          obtain ⟨⟨c, so⟩, hc⟩ : ∃ p, aheadF a' b' r = p := ⟨_, rfl⟩
          cases k <;> cases so
          · exact joins_ff a b a' b' v u v' u' s w hv hu hv' hu' hn hn' hs h1 h2 h0 h0x r c hr hc
          · exact joins_ft a b a' b' v u v' u' s w hv hu hv' hu' hn hn' hs h1 h2 h0 h0x r c hr hc
          · exact joins_tf a b a' b' v u v' u' s w hv hu hv' hu' hn hn' hs h1 h2 h0 h0x r c hr hc
          · exact joins_tt a b a' b' v u v' u' s w hv hu hv' hu' hn hn' hs h1 h2 h0 h0x r c hr hc
        · exact joins_no4 a b a' b' v u v' u' s w hv hu hv' hu' h1 h2 h0 h0x
      · exact joins_no3 a b a' b' v u v' u' s w hv hu hv' hu' h1 h2 h0
    · exact joins_no2 a b a' b' v u v' u' s w hv hu hv' hu' h1 (by simpa using h2)
  · exact joins_no1 a b a' b' v u v' u' s w hv hu hv' hu' (by simpa using h1)
end Go.Proofs.Ytadodccciejghaa
