/- TableTells: what the document says of a table. -/
import Derived.Test.YtadodccciejghaaWorks
import Derived.Test.YtadodccciejghaaRMap
import Derived.Test.YtadodccciejghaaRInv
import Derived.Test.YtadodccciejghaaRAhead
import Derived.Test.YtadodccciejghaaRJoin
import Derived.Test.YtadodccciejghaaOpen
namespace Go.Proofs.Ytadodccciejghaa
open Go.RowKit
attribute [local go_sem] Oper.semAt_some
set_option maxRecDepth 100000
set_option maxHeartbeats 2000000

theorem max1 {l : List ByteArray} (h : ∀ x ∈ l, x.size ≤ 60) : ∀ x ∈ l, x.size ≤ 100000 := fun x hx => by have := h x hx; omega
theorem few_ex (a b : List ByteArray) (v u : Value) (q : Bool) (w : World) (hv : Lst stc w v a) (hu : Lst stc w u b) (hq : (fewB a 210 && fewB b 210) = q) :
    Calls Try.prog 15 #[.agg #[v, u]] w fun e w' => e = .returned (.bool q) ∧ Below w.heap.size w w' := by
  subst hq
  exact fewT_any a b v u w hv hu
theorem rcheck_ex (a b : List ByteArray) (v u : Value) (q : Int) (w : World) (hv : Lst stc w v a) (hu : Lst stc w u b) (hz : ∀ x ∈ a, x.size ≤ 60) (hz' : ∀ x ∈ b, x.size ≤ 60) (hc : CapFine v) (hc' : CapFine u) (hq : checkF a b = q) :
    Calls Try.prog 16 #[.agg #[v, u]] w fun e w' => e = .returned (.int .i64 q) ∧ Below w.heap.size w w' := by
  subst hq
  exact rcheck_any a b v u w hv hu (max1 hz) (max1 hz') hc hc'
theorem rahead_ex (a b : List ByteArray) (v u : Value) (s r : ByteArray) (q : Bool) (w : World) (hv : Lst stc w v a) (hu : Lst stc w u b) (hz : ∀ x ∈ a, x.size ≤ 60) (hz' : ∀ x ∈ b, x.size ≤ 60) (hc : CapFine v) (hc' : CapFine u) (hq : aheadF a b s = (r, q)) :
    Calls Try.prog 20 #[.agg #[v, u], .string s] w fun e w' => e = .returned (.tuple #[.string r, .bool q]) ∧ Below w.heap.size w w' := by
  have := rahead_any a b v u s w hv hu (max1 hz) (max1 hz') hc hc'
  rw [hq] at this
  exact this
theorem rinv_yes (a b : List ByteArray) (v u : Value) (w : World) (hv : Lst stc w v a) (hu : Lst stc w u b) (hz : ∀ x ∈ a, x.size ≤ 60) (hz' : ∀ x ∈ b, x.size ≤ 60) (hc : CapFine v) (hc' : CapFine u) (hq : checkF a b = 0) :
    Calls Try.prog 22 #[.agg #[v, u]] w fun e w' => e = .returned (.agg #[u, v]) ∧ Below w.heap.size w w' := by
  have := rinv_any a b v u w hv hu (max1 hz) (max1 hz') hc hc'
  rw [if_pos hq] at this
  exact this
theorem rinv_no (a b : List ByteArray) (v u : Value) (w : World) (hv : Lst stc w v a) (hu : Lst stc w u b) (hz : ∀ x ∈ a, x.size ≤ 60) (hz' : ∀ x ∈ b, x.size ≤ 60) (hc : CapFine v) (hc' : CapFine u) (hq : ¬ checkF a b = 0) :
    Calls Try.prog 22 #[.agg #[v, u]] w fun e w' => e = .returned (.agg #[.slice none 0 0, .slice none 0 0]) ∧ Below w.heap.size w w' := by
  have := rinv_any a b v u w hv hu (max1 hz) (max1 hz') hc hc'
  rw [if_neg hq] at this
  exact this
theorem rsame_ex (a b a' b' : List ByteArray) (v u v' u' : Value) (q : Bool) (w : World) (ha : a.length ≤ 210) (hb : b.length ≤ 210) (ha' : a'.length ≤ 210) (hb' : b'.length ≤ 210) (hv : Lst stc w v a) (hu : Lst stc w u b) (hv' : Lst stc w v' a') (hu' : Lst stc w u' b') (hq : (eqL stEq a a' && eqL stEq b b') = q) :
    Calls Try.prog 23 #[.agg #[v, u], .agg #[v', u']] w fun e w' => e = .returned (.bool q) ∧ Below w.heap.size w w' := by
  subst hq
  exact rsame_any a b a' b' v u v' u' w (by omega) (by omega) (by omega) (by omega) hv hu hv' hu'
theorem both_self (a b : List ByteArray) : (eqL stEq a a && eqL stEq b b) = true := by rw [same_self, same_self]; rfl
theorem capfine_nil : CapFine (.slice none 0 0) := fun _ _ _ h => by cases h; exact Nat.le_refl _

theorem tells_no1 (a b a' b' : List ByteArray) (v u v' u' : Value) (s : ByteArray) (w : World) (hv : Lst stc w v a) (hu : Lst stc w u b) (hv' : Lst stc w v' a') (hu' : Lst stc w u' b') (h1 : (fewB a 210 && fewB b 210) = false) :
    Calls Try.prog 3 #[.agg #[v, u], .agg #[v', u'], .string s] w fun e w' => e = .returned (.bool true) ∧ Below w.heap.size w w' := by
  have H1 := Lib.hid h1
  clear h1
  have HV := Lib.hid hv
  have HU := Lib.hid hu
  have HV' := Lib.hid hv'
  have HU' := Lib.hid hu'
  obtain ⟨va, vc, rfl⟩ := hv.slice
  obtain ⟨ua, uc, rfl⟩ := hu.slice
  obtain ⟨va', vc', rfl⟩ := hv'.slice
  obtain ⟨ua', uc', rfl⟩ := hu'.slice
  clear hv hu hv' hu'
  go_enter Try.func3, Try.ntmps3
  go_wp2_with fail
  have a1 : Below w.heap.size w ((w.alloc (.cells #[.slice va a.length vc, .slice ua b.length uc] 24)).alloc (.cells #[.slice va' a'.length vc', .slice ua' b'.length uc'] 24)) := (((Below.refl w.heap.size w).alloc (by first | exact Nat.le_refl _ | (simp only [World.size_alloc]; omega)) (.cells #[.slice va a.length vc, .slice ua b.length uc] 24)).alloc (by first | exact Nat.le_refl _ | (simp only [World.size_alloc]; omega)) (.cells #[.slice va' a'.length vc', .slice ua' b'.length uc'] 24))
  have T_new0 := ((Blk.new w #[.slice va a.length vc, .slice ua b.length uc] 24).alloc (.cells #[.slice va' a'.length vc', .slice ua' b'.length uc'] 24))
  have KT_00 := Lib.hid T_new0
  clear T_new0
  have O_new0 := (Blk.new (w.alloc (.cells #[.slice va a.length vc, .slice ua b.length uc] 24)) #[.slice va' a'.length vc', .slice ua' b'.length uc'] 24)
  rw [World.size_alloc] at O_new0
  have KO_00 := Lib.hid O_new0
  clear O_new0
  have V_1 := Lib.hid (HV.out.below a1)
  clear HV
  have U_1 := Lib.hid (HU.out.below a1)
  clear HU
  have V'_1 := Lib.hid (HV'.out.below a1)
  clear HV'
  have U'_1 := Lib.hid (HU'.out.below a1)
  clear HU'
  have B_1 := Lib.hid a1
  clear a1
  generalize ((w.alloc (.cells #[.slice va a.length vc, .slice ua b.length uc] 24)).alloc (.cells #[.slice va' a'.length vc', .slice ua' b'.length uc'] 24)) = w1 at V_1 U_1 V'_1 U'_1 KT_00 KO_00 B_1 ⊢
  refine (works_any _).mono ?_
  rintro e w2 ⟨rfl, b2⟩
  have V_2 := Lib.hid (V_1.out.below b2)
  clear V_1
  have U_2 := Lib.hid (U_1.out.below b2)
  clear U_1
  have V'_2 := Lib.hid (V'_1.out.below b2)
  clear V'_1
  have U'_2 := Lib.hid (U'_1.out.below b2)
  clear U'_1
  have KT_2 := Lib.hid (KT_00.out.below b2 KT_00.out.lt)
  clear KT_00
  have KO_2 := Lib.hid (KO_00.out.below b2 KO_00.out.lt)
  clear KO_00
  have B_2 := Lib.hid (B_1.out.trans (b2.mono B_1.out.size))
  clear B_1
  clear b2
  have lT_2 : w.heap.size < w2.heap.size := KT_2.out.lt
  have cT_0_2 : w2.cell? ⟨w.heap.size, 0, none⟩ = some (.slice va a.length vc) := KT_2.out.cell 0
  have cT_1_2 : w2.cell? ⟨w.heap.size, 1, none⟩ = some (.slice ua b.length uc) := KT_2.out.cell 1
  have lO_2 : w.heap.size + 1 < w2.heap.size := KO_2.out.lt
  have cO_0_2 : w2.cell? ⟨w.heap.size + 1, 0, none⟩ = some (.slice va' a'.length vc') := KO_2.out.cell 0
  have cO_1_2 : w2.cell? ⟨w.heap.size + 1, 1, none⟩ = some (.slice ua' b'.length uc') := KO_2.out.cell 1
  go_wp2_with fail
  clear lT_2 cT_0_2 cT_1_2 lO_2 cO_0_2 cO_1_2
  refine (few_ex a b _ _ false _ V_2.out U_2.out H1.out).mono ?_
  rintro e w3 ⟨rfl, b3⟩
  have V_3 := Lib.hid (V_2.out.below b3)
  clear V_2
  have U_3 := Lib.hid (U_2.out.below b3)
  clear U_2
  have V'_3 := Lib.hid (V'_2.out.below b3)
  clear V'_2
  have U'_3 := Lib.hid (U'_2.out.below b3)
  clear U'_2
  have KT_3 := Lib.hid (KT_2.out.below b3 KT_2.out.lt)
  clear KT_2
  have KO_3 := Lib.hid (KO_2.out.below b3 KO_2.out.lt)
  clear KO_2
  have B_3 := Lib.hid (B_2.out.trans (b3.mono B_2.out.size))
  clear B_2
  clear b3
  have lT_3 : w.heap.size < w3.heap.size := KT_3.out.lt
  have cT_0_3 : w3.cell? ⟨w.heap.size, 0, none⟩ = some (.slice va a.length vc) := KT_3.out.cell 0
  have cT_1_3 : w3.cell? ⟨w.heap.size, 1, none⟩ = some (.slice ua b.length uc) := KT_3.out.cell 1
  have lO_3 : w.heap.size + 1 < w3.heap.size := KO_3.out.lt
  have cO_0_3 : w3.cell? ⟨w.heap.size + 1, 0, none⟩ = some (.slice va' a'.length vc') := KO_3.out.cell 0
  have cO_1_3 : w3.cell? ⟨w.heap.size + 1, 1, none⟩ = some (.slice ua' b'.length uc') := KO_3.out.cell 1
  go_wp2
  go_ret
  exact ⟨rfl, B_3.out⟩

theorem tells_no2 (a b a' b' : List ByteArray) (v u v' u' : Value) (s : ByteArray) (w : World) (hv : Lst stc w v a) (hu : Lst stc w u b) (hv' : Lst stc w v' a') (hu' : Lst stc w u' b') (h1 : (fewB a 210 && fewB b 210) = true) (h2 : (fewB a' 210 && fewB b' 210) = false) :
    Calls Try.prog 3 #[.agg #[v, u], .agg #[v', u'], .string s] w fun e w' => e = .returned (.bool true) ∧ Below w.heap.size w w' := by
  have H1 := Lib.hid h1
  have H2 := Lib.hid h2
  clear h1 h2
  have HV := Lib.hid hv
  have HU := Lib.hid hu
  have HV' := Lib.hid hv'
  have HU' := Lib.hid hu'
  obtain ⟨va, vc, rfl⟩ := hv.slice
  obtain ⟨ua, uc, rfl⟩ := hu.slice
  obtain ⟨va', vc', rfl⟩ := hv'.slice
  obtain ⟨ua', uc', rfl⟩ := hu'.slice
  clear hv hu hv' hu'
  go_enter Try.func3, Try.ntmps3
  go_wp2_with fail
  have a1 : Below w.heap.size w ((w.alloc (.cells #[.slice va a.length vc, .slice ua b.length uc] 24)).alloc (.cells #[.slice va' a'.length vc', .slice ua' b'.length uc'] 24)) := (((Below.refl w.heap.size w).alloc (by first | exact Nat.le_refl _ | (simp only [World.size_alloc]; omega)) (.cells #[.slice va a.length vc, .slice ua b.length uc] 24)).alloc (by first | exact Nat.le_refl _ | (simp only [World.size_alloc]; omega)) (.cells #[.slice va' a'.length vc', .slice ua' b'.length uc'] 24))
  have T_new0 := ((Blk.new w #[.slice va a.length vc, .slice ua b.length uc] 24).alloc (.cells #[.slice va' a'.length vc', .slice ua' b'.length uc'] 24))
  have KT_00 := Lib.hid T_new0
  clear T_new0
  have O_new0 := (Blk.new (w.alloc (.cells #[.slice va a.length vc, .slice ua b.length uc] 24)) #[.slice va' a'.length vc', .slice ua' b'.length uc'] 24)
  rw [World.size_alloc] at O_new0
  have KO_00 := Lib.hid O_new0
  clear O_new0
  have V_1 := Lib.hid (HV.out.below a1)
  clear HV
  have U_1 := Lib.hid (HU.out.below a1)
  clear HU
  have V'_1 := Lib.hid (HV'.out.below a1)
  clear HV'
  have U'_1 := Lib.hid (HU'.out.below a1)
  clear HU'
  have B_1 := Lib.hid a1
  clear a1
  generalize ((w.alloc (.cells #[.slice va a.length vc, .slice ua b.length uc] 24)).alloc (.cells #[.slice va' a'.length vc', .slice ua' b'.length uc'] 24)) = w1 at V_1 U_1 V'_1 U'_1 KT_00 KO_00 B_1 ⊢
  refine (works_any _).mono ?_
  rintro e w2 ⟨rfl, b2⟩
  have V_2 := Lib.hid (V_1.out.below b2)
  clear V_1
  have U_2 := Lib.hid (U_1.out.below b2)
  clear U_1
  have V'_2 := Lib.hid (V'_1.out.below b2)
  clear V'_1
  have U'_2 := Lib.hid (U'_1.out.below b2)
  clear U'_1
  have KT_2 := Lib.hid (KT_00.out.below b2 KT_00.out.lt)
  clear KT_00
  have KO_2 := Lib.hid (KO_00.out.below b2 KO_00.out.lt)
  clear KO_00
  have B_2 := Lib.hid (B_1.out.trans (b2.mono B_1.out.size))
  clear B_1
  clear b2
  have lT_2 : w.heap.size < w2.heap.size := KT_2.out.lt
  have cT_0_2 : w2.cell? ⟨w.heap.size, 0, none⟩ = some (.slice va a.length vc) := KT_2.out.cell 0
  have cT_1_2 : w2.cell? ⟨w.heap.size, 1, none⟩ = some (.slice ua b.length uc) := KT_2.out.cell 1
  have lO_2 : w.heap.size + 1 < w2.heap.size := KO_2.out.lt
  have cO_0_2 : w2.cell? ⟨w.heap.size + 1, 0, none⟩ = some (.slice va' a'.length vc') := KO_2.out.cell 0
  have cO_1_2 : w2.cell? ⟨w.heap.size + 1, 1, none⟩ = some (.slice ua' b'.length uc') := KO_2.out.cell 1
  go_wp2_with fail
  clear lT_2 cT_0_2 cT_1_2 lO_2 cO_0_2 cO_1_2
  refine (few_ex a b _ _ true _ V_2.out U_2.out H1.out).mono ?_
  rintro e w3 ⟨rfl, b3⟩
  have V_3 := Lib.hid (V_2.out.below b3)
  clear V_2
  have U_3 := Lib.hid (U_2.out.below b3)
  clear U_2
  have V'_3 := Lib.hid (V'_2.out.below b3)
  clear V'_2
  have U'_3 := Lib.hid (U'_2.out.below b3)
  clear U'_2
  have KT_3 := Lib.hid (KT_2.out.below b3 KT_2.out.lt)
  clear KT_2
  have KO_3 := Lib.hid (KO_2.out.below b3 KO_2.out.lt)
  clear KO_2
  have B_3 := Lib.hid (B_2.out.trans (b3.mono B_2.out.size))
  clear B_2
  clear b3
  have lT_3 : w.heap.size < w3.heap.size := KT_3.out.lt
  have cT_0_3 : w3.cell? ⟨w.heap.size, 0, none⟩ = some (.slice va a.length vc) := KT_3.out.cell 0
  have cT_1_3 : w3.cell? ⟨w.heap.size, 1, none⟩ = some (.slice ua b.length uc) := KT_3.out.cell 1
  have lO_3 : w.heap.size + 1 < w3.heap.size := KO_3.out.lt
  have cO_0_3 : w3.cell? ⟨w.heap.size + 1, 0, none⟩ = some (.slice va' a'.length vc') := KO_3.out.cell 0
  have cO_1_3 : w3.cell? ⟨w.heap.size + 1, 1, none⟩ = some (.slice ua' b'.length uc') := KO_3.out.cell 1
  go_wp2_with fail
  clear lT_3 cT_0_3 cT_1_3 lO_3 cO_0_3 cO_1_3
  refine (few_ex a' b' _ _ false _ V'_3.out U'_3.out H2.out).mono ?_
  rintro e w4 ⟨rfl, b4⟩
  have V_4 := Lib.hid (V_3.out.below b4)
  clear V_3
  have U_4 := Lib.hid (U_3.out.below b4)
  clear U_3
  have V'_4 := Lib.hid (V'_3.out.below b4)
  clear V'_3
  have U'_4 := Lib.hid (U'_3.out.below b4)
  clear U'_3
  have KT_4 := Lib.hid (KT_3.out.below b4 KT_3.out.lt)
  clear KT_3
  have KO_4 := Lib.hid (KO_3.out.below b4 KO_3.out.lt)
  clear KO_3
  have B_4 := Lib.hid (B_3.out.trans (b4.mono B_3.out.size))
  clear B_3
  clear b4
  go_wp2
  go_ret
  exact ⟨rfl, B_4.out⟩

theorem tells_no3 (a b a' b' : List ByteArray) (v u v' u' : Value) (s : ByteArray) (w : World) (hv : Lst stc w v a) (hu : Lst stc w u b) (hv' : Lst stc w v' a') (hu' : Lst stc w u' b') (h1 : (fewB a 210 && fewB b 210) = true) (h2 : (fewB a' 210 && fewB b' 210) = true) (h3 : (60 : Int) < (s.size : Int)) :
    Calls Try.prog 3 #[.agg #[v, u], .agg #[v', u'], .string s] w fun e w' => e = .returned (.bool true) ∧ Below w.heap.size w w' := by
  have H1 := Lib.hid h1
  have H2 := Lib.hid h2
  clear h1 h2
  have HV := Lib.hid hv
  have HU := Lib.hid hu
  have HV' := Lib.hid hv'
  have HU' := Lib.hid hu'
  obtain ⟨va, vc, rfl⟩ := hv.slice
  obtain ⟨ua, uc, rfl⟩ := hu.slice
  obtain ⟨va', vc', rfl⟩ := hv'.slice
  obtain ⟨ua', uc', rfl⟩ := hu'.slice
  clear hv hu hv' hu'
  go_enter Try.func3, Try.ntmps3
  go_wp2_with fail
  have a1 : Below w.heap.size w ((w.alloc (.cells #[.slice va a.length vc, .slice ua b.length uc] 24)).alloc (.cells #[.slice va' a'.length vc', .slice ua' b'.length uc'] 24)) := (((Below.refl w.heap.size w).alloc (by first | exact Nat.le_refl _ | (simp only [World.size_alloc]; omega)) (.cells #[.slice va a.length vc, .slice ua b.length uc] 24)).alloc (by first | exact Nat.le_refl _ | (simp only [World.size_alloc]; omega)) (.cells #[.slice va' a'.length vc', .slice ua' b'.length uc'] 24))
  have T_new0 := ((Blk.new w #[.slice va a.length vc, .slice ua b.length uc] 24).alloc (.cells #[.slice va' a'.length vc', .slice ua' b'.length uc'] 24))
  have KT_00 := Lib.hid T_new0
  clear T_new0
  have O_new0 := (Blk.new (w.alloc (.cells #[.slice va a.length vc, .slice ua b.length uc] 24)) #[.slice va' a'.length vc', .slice ua' b'.length uc'] 24)
  rw [World.size_alloc] at O_new0
  have KO_00 := Lib.hid O_new0
  clear O_new0
  have V_1 := Lib.hid (HV.out.below a1)
  clear HV
  have U_1 := Lib.hid (HU.out.below a1)
  clear HU
  have V'_1 := Lib.hid (HV'.out.below a1)
  clear HV'
  have U'_1 := Lib.hid (HU'.out.below a1)
  clear HU'
  have B_1 := Lib.hid a1
  clear a1
  generalize ((w.alloc (.cells #[.slice va a.length vc, .slice ua b.length uc] 24)).alloc (.cells #[.slice va' a'.length vc', .slice ua' b'.length uc'] 24)) = w1 at V_1 U_1 V'_1 U'_1 KT_00 KO_00 B_1 ⊢
  refine (works_any _).mono ?_
  rintro e w2 ⟨rfl, b2⟩
  have V_2 := Lib.hid (V_1.out.below b2)
  clear V_1
  have U_2 := Lib.hid (U_1.out.below b2)
  clear U_1
  have V'_2 := Lib.hid (V'_1.out.below b2)
  clear V'_1
  have U'_2 := Lib.hid (U'_1.out.below b2)
  clear U'_1
  have KT_2 := Lib.hid (KT_00.out.below b2 KT_00.out.lt)
  clear KT_00
  have KO_2 := Lib.hid (KO_00.out.below b2 KO_00.out.lt)
  clear KO_00
  have B_2 := Lib.hid (B_1.out.trans (b2.mono B_1.out.size))
  clear B_1
  clear b2
  have lT_2 : w.heap.size < w2.heap.size := KT_2.out.lt
  have cT_0_2 : w2.cell? ⟨w.heap.size, 0, none⟩ = some (.slice va a.length vc) := KT_2.out.cell 0
  have cT_1_2 : w2.cell? ⟨w.heap.size, 1, none⟩ = some (.slice ua b.length uc) := KT_2.out.cell 1
  have lO_2 : w.heap.size + 1 < w2.heap.size := KO_2.out.lt
  have cO_0_2 : w2.cell? ⟨w.heap.size + 1, 0, none⟩ = some (.slice va' a'.length vc') := KO_2.out.cell 0
  have cO_1_2 : w2.cell? ⟨w.heap.size + 1, 1, none⟩ = some (.slice ua' b'.length uc') := KO_2.out.cell 1
  go_wp2_with fail
  clear lT_2 cT_0_2 cT_1_2 lO_2 cO_0_2 cO_1_2
  refine (few_ex a b _ _ true _ V_2.out U_2.out H1.out).mono ?_
  rintro e w3 ⟨rfl, b3⟩
  have V_3 := Lib.hid (V_2.out.below b3)
  clear V_2
  have U_3 := Lib.hid (U_2.out.below b3)
  clear U_2
  have V'_3 := Lib.hid (V'_2.out.below b3)
  clear V'_2
  have U'_3 := Lib.hid (U'_2.out.below b3)
  clear U'_2
  have KT_3 := Lib.hid (KT_2.out.below b3 KT_2.out.lt)
  clear KT_2
  have KO_3 := Lib.hid (KO_2.out.below b3 KO_2.out.lt)
  clear KO_2
  have B_3 := Lib.hid (B_2.out.trans (b3.mono B_2.out.size))
  clear B_2
  clear b3
  have lT_3 : w.heap.size < w3.heap.size := KT_3.out.lt
  have cT_0_3 : w3.cell? ⟨w.heap.size, 0, none⟩ = some (.slice va a.length vc) := KT_3.out.cell 0
  have cT_1_3 : w3.cell? ⟨w.heap.size, 1, none⟩ = some (.slice ua b.length uc) := KT_3.out.cell 1
  have lO_3 : w.heap.size + 1 < w3.heap.size := KO_3.out.lt
  have cO_0_3 : w3.cell? ⟨w.heap.size + 1, 0, none⟩ = some (.slice va' a'.length vc') := KO_3.out.cell 0
  have cO_1_3 : w3.cell? ⟨w.heap.size + 1, 1, none⟩ = some (.slice ua' b'.length uc') := KO_3.out.cell 1
  go_wp2_with fail
  clear lT_3 cT_0_3 cT_1_3 lO_3 cO_0_3 cO_1_3
  refine (few_ex a' b' _ _ true _ V'_3.out U'_3.out H2.out).mono ?_
  rintro e w4 ⟨rfl, b4⟩
  have V_4 := Lib.hid (V_3.out.below b4)
  clear V_3
  have U_4 := Lib.hid (U_3.out.below b4)
  clear U_3
  have V'_4 := Lib.hid (V'_3.out.below b4)
  clear V'_3
  have U'_4 := Lib.hid (U'_3.out.below b4)
  clear U'_3
  have KT_4 := Lib.hid (KT_3.out.below b4 KT_3.out.lt)
  clear KT_3
  have KO_4 := Lib.hid (KO_3.out.below b4 KO_3.out.lt)
  clear KO_3
  have B_4 := Lib.hid (B_3.out.trans (b4.mono B_3.out.size))
  clear B_3
  clear b4
  go_wp2
  go_ret
  exact ⟨rfl, B_4.out⟩

theorem tells_ok (a b a' b' : List ByteArray) (v u v' u' : Value) (s : ByteArray) (w : World) (hv : Lst stc w v a) (hu : Lst stc w u b) (hv' : Lst stc w v' a') (hu' : Lst stc w u' b') (hc : CapFine v) (hc' : CapFine u) (hn : NilFine v) (hn' : NilFine u) (h1 : (fewB a 210 && fewB b 210) = true) (h2 : (fewB a' 210 && fewB b' 210) = true) (h3 : ¬ (60 : Int) < (s.size : Int)) (h0 : checkF a b = 0) :
    Calls Try.prog 3 #[.agg #[v, u], .agg #[v', u'], .string s] w fun e w' => e = .returned (.bool true) ∧ Below w.heap.size w w' := by
  have HC := Lib.hid hc
  have HC' := Lib.hid hc'
  have H1 := Lib.hid h1
  have H2 := Lib.hid h2
  have HN := Lib.hid hn
  have HN' := Lib.hid hn'
  obtain ⟨f1, f2⟩ := Bool.and_eq_true_iff.1 h1
  obtain ⟨f3, f4⟩ := Bool.and_eq_true_iff.1 h2
  obtain ⟨la, za⟩ := few_of f1
  obtain ⟨lb, zb⟩ := few_of f2
  obtain ⟨la', za'⟩ := few_of f3
  obtain ⟨lb', zb'⟩ := few_of f4
  have ZA := Lib.hid za
  have ZB := Lib.hid zb
  have h3' : decide ((60 : Int) < (s.size : Int)) = false := decide_eq_false h3
  have HS := Lib.hid (show s.size ≤ 60 by omega)
  have H0 := Lib.hid h0
  obtain ⟨sm, hsm⟩ : ∃ q, (eqL stEq a a' && eqL stEq b b') = q := ⟨_, rfl⟩
  have HSM := Lib.hid hsm
  clear hc hc' h1 h2 hn hn' f1 f2 f3 f4 za zb za' zb' h3 hsm
  obtain ⟨⟨r, k⟩, hr⟩ : ∃ p, aheadF a b s = p := ⟨_, rfl⟩
  obtain ⟨⟨r2, k2⟩, hr2⟩ : ∃ p, aheadF b a s = p := ⟨_, rfl⟩
  have HR := Lib.hid hr
  have HR2 := Lib.hid hr2
  clear h0 hr hr2
  have HV := Lib.hid hv
  have HU := Lib.hid hu
  have HV' := Lib.hid hv'
  have HU' := Lib.hid hu'
  obtain ⟨va, vc, rfl⟩ := hv.slice
  obtain ⟨ua, uc, rfl⟩ := hu.slice
  obtain ⟨va', vc', rfl⟩ := hv'.slice
  obtain ⟨ua', uc', rfl⟩ := hu'.slice
  clear hv hu hv' hu'
  go_enter Try.func3, Try.ntmps3
  go_wp2_with fail
  have a1 : Below w.heap.size w ((w.alloc (.cells #[.slice va a.length vc, .slice ua b.length uc] 24)).alloc (.cells #[.slice va' a'.length vc', .slice ua' b'.length uc'] 24)) := (((Below.refl w.heap.size w).alloc (by first | exact Nat.le_refl _ | (simp only [World.size_alloc]; omega)) (.cells #[.slice va a.length vc, .slice ua b.length uc] 24)).alloc (by first | exact Nat.le_refl _ | (simp only [World.size_alloc]; omega)) (.cells #[.slice va' a'.length vc', .slice ua' b'.length uc'] 24))
  have T_new0 := ((Blk.new w #[.slice va a.length vc, .slice ua b.length uc] 24).alloc (.cells #[.slice va' a'.length vc', .slice ua' b'.length uc'] 24))
  have KT_00 := Lib.hid T_new0
  clear T_new0
  have O_new0 := (Blk.new (w.alloc (.cells #[.slice va a.length vc, .slice ua b.length uc] 24)) #[.slice va' a'.length vc', .slice ua' b'.length uc'] 24)
  rw [World.size_alloc] at O_new0
  have KO_00 := Lib.hid O_new0
  clear O_new0
  have V_1 := Lib.hid (HV.out.below a1)
  clear HV
  have U_1 := Lib.hid (HU.out.below a1)
  clear HU
  have V'_1 := Lib.hid (HV'.out.below a1)
  clear HV'
  have U'_1 := Lib.hid (HU'.out.below a1)
  clear HU'
  have B_1 := Lib.hid a1
  clear a1
  generalize ((w.alloc (.cells #[.slice va a.length vc, .slice ua b.length uc] 24)).alloc (.cells #[.slice va' a'.length vc', .slice ua' b'.length uc'] 24)) = w1 at V_1 U_1 V'_1 U'_1 KT_00 KO_00 B_1 ⊢
  refine (works_any _).mono ?_
  rintro e w2 ⟨rfl, b2⟩
  have V_2 := Lib.hid (V_1.out.below b2)
  clear V_1
  have U_2 := Lib.hid (U_1.out.below b2)
  clear U_1
  have V'_2 := Lib.hid (V'_1.out.below b2)
  clear V'_1
  have U'_2 := Lib.hid (U'_1.out.below b2)
  clear U'_1
  have KT_2 := Lib.hid (KT_00.out.below b2 KT_00.out.lt)
  clear KT_00
  have KO_2 := Lib.hid (KO_00.out.below b2 KO_00.out.lt)
  clear KO_00
  have B_2 := Lib.hid (B_1.out.trans (b2.mono B_1.out.size))
  clear B_1
  clear b2
  have lT_2 : w.heap.size < w2.heap.size := KT_2.out.lt
  have cT_0_2 : w2.cell? ⟨w.heap.size, 0, none⟩ = some (.slice va a.length vc) := KT_2.out.cell 0
  have cT_1_2 : w2.cell? ⟨w.heap.size, 1, none⟩ = some (.slice ua b.length uc) := KT_2.out.cell 1
  have lO_2 : w.heap.size + 1 < w2.heap.size := KO_2.out.lt
  have cO_0_2 : w2.cell? ⟨w.heap.size + 1, 0, none⟩ = some (.slice va' a'.length vc') := KO_2.out.cell 0
  have cO_1_2 : w2.cell? ⟨w.heap.size + 1, 1, none⟩ = some (.slice ua' b'.length uc') := KO_2.out.cell 1
  go_wp2_with fail
  clear lT_2 cT_0_2 cT_1_2 lO_2 cO_0_2 cO_1_2
  refine (few_ex a b _ _ true _ V_2.out U_2.out H1.out).mono ?_
  rintro e w3 ⟨rfl, b3⟩
  have V_3 := Lib.hid (V_2.out.below b3)
  clear V_2
  have U_3 := Lib.hid (U_2.out.below b3)
  clear U_2
  have V'_3 := Lib.hid (V'_2.out.below b3)
  clear V'_2
  have U'_3 := Lib.hid (U'_2.out.below b3)
  clear U'_2
  have KT_3 := Lib.hid (KT_2.out.below b3 KT_2.out.lt)
  clear KT_2
  have KO_3 := Lib.hid (KO_2.out.below b3 KO_2.out.lt)
  clear KO_2
  have B_3 := Lib.hid (B_2.out.trans (b3.mono B_2.out.size))
  clear B_2
  clear b3
  have lT_3 : w.heap.size < w3.heap.size := KT_3.out.lt
  have cT_0_3 : w3.cell? ⟨w.heap.size, 0, none⟩ = some (.slice va a.length vc) := KT_3.out.cell 0
  have cT_1_3 : w3.cell? ⟨w.heap.size, 1, none⟩ = some (.slice ua b.length uc) := KT_3.out.cell 1
  have lO_3 : w.heap.size + 1 < w3.heap.size := KO_3.out.lt
  have cO_0_3 : w3.cell? ⟨w.heap.size + 1, 0, none⟩ = some (.slice va' a'.length vc') := KO_3.out.cell 0
  have cO_1_3 : w3.cell? ⟨w.heap.size + 1, 1, none⟩ = some (.slice ua' b'.length uc') := KO_3.out.cell 1
  go_wp2_with fail
  clear lT_3 cT_0_3 cT_1_3 lO_3 cO_0_3 cO_1_3
  refine (few_ex a' b' _ _ true _ V'_3.out U'_3.out H2.out).mono ?_
  rintro e w4 ⟨rfl, b4⟩
  have V_4 := Lib.hid (V_3.out.below b4)
  clear V_3
  have U_4 := Lib.hid (U_3.out.below b4)
  clear U_3
  have V'_4 := Lib.hid (V'_3.out.below b4)
  clear V'_3
  have U'_4 := Lib.hid (U'_3.out.below b4)
  clear U'_3
  have KT_4 := Lib.hid (KT_3.out.below b4 KT_3.out.lt)
  clear KT_3
  have KO_4 := Lib.hid (KO_3.out.below b4 KO_3.out.lt)
  clear KO_3
  have B_4 := Lib.hid (B_3.out.trans (b4.mono B_3.out.size))
  clear B_3
  clear b4
  have lT_4 : w.heap.size < w4.heap.size := KT_4.out.lt
  have cT_0_4 : w4.cell? ⟨w.heap.size, 0, none⟩ = some (.slice va a.length vc) := KT_4.out.cell 0
  have cT_1_4 : w4.cell? ⟨w.heap.size, 1, none⟩ = some (.slice ua b.length uc) := KT_4.out.cell 1
  go_wp2_with fail
  clear lT_4 cT_0_4 cT_1_4
  refine (of_any _ _ _ ⟨_, _, _, rfl⟩ ⟨_, _, _, rfl⟩).mono ?_
  rintro e w5 ⟨rfl, b5⟩
  have V_5 := Lib.hid (V_4.out.below b5)
  clear V_4
  have U_5 := Lib.hid (U_4.out.below b5)
  clear U_4
  have V'_5 := Lib.hid (V'_4.out.below b5)
  clear V'_4
  have U'_5 := Lib.hid (U'_4.out.below b5)
  clear U'_4
  have KT_5 := Lib.hid (KT_4.out.below b5 KT_4.out.lt)
  clear KT_4
  have KO_5 := Lib.hid (KO_4.out.below b5 KO_4.out.lt)
  clear KO_4
  have B_5 := Lib.hid (B_4.out.trans (b5.mono B_4.out.size))
  clear B_4
  clear b5
  go_wp2_with fail
  refine (rcheck_ex a b _ _ 0 _ V_5.out U_5.out ZA.out ZB.out HC.out HC'.out H0.out).mono ?_
  rintro e w6 ⟨rfl, b6⟩
  have V_6 := Lib.hid (V_5.out.below b6)
  clear V_5
  have U_6 := Lib.hid (U_5.out.below b6)
  clear U_5
  have V'_6 := Lib.hid (V'_5.out.below b6)
  clear V'_5
  have U'_6 := Lib.hid (U'_5.out.below b6)
  clear U'_5
  have KT_6 := Lib.hid (KT_5.out.below b6 KT_5.out.lt)
  clear KT_5
  have KO_6 := Lib.hid (KO_5.out.below b6 KO_5.out.lt)
  clear KO_5
  have B_6 := Lib.hid (B_5.out.trans (b6.mono B_5.out.size))
  clear B_5
  clear b6
  have lT_6 : w.heap.size < w6.heap.size := KT_6.out.lt
  have cT_0_6 : w6.cell? ⟨w.heap.size, 0, none⟩ = some (.slice va a.length vc) := KT_6.out.cell 0
  have cT_1_6 : w6.cell? ⟨w.heap.size, 1, none⟩ = some (.slice ua b.length uc) := KT_6.out.cell 1
  go_wp2_with fail
  clear lT_6 cT_0_6 cT_1_6
  refine (of_ex a b _ _ 0 _ V_6.out U_6.out ZA.out ZB.out HN.out HN'.out H0.out).mono ?_
  rintro e w7 ⟨V1, rfl, ht, b7⟩
  have V_7 := Lib.hid (V_6.out.below b7)
  clear V_6
  have U_7 := Lib.hid (U_6.out.below b7)
  clear U_6
  have V'_7 := Lib.hid (V'_6.out.below b7)
  clear V'_6
  have U'_7 := Lib.hid (U'_6.out.below b7)
  clear U'_6
  have KT_7 := Lib.hid (KT_6.out.below b7 KT_6.out.lt)
  clear KT_6
  have KO_7 := Lib.hid (KO_6.out.below b7 KO_6.out.lt)
  clear KO_6
  have B_7 := Lib.hid (B_6.out.trans (b7.mono B_6.out.size))
  clear B_6
  clear b7
  rw [okL_yes rfl, okL_yes rfl] at ht
  obtain ⟨x1, x2, rfl, r1, r2⟩ := ht
  change World.ownsRow _ _ 9 1 x1 a.length _ at r1
  change World.ownsRow _ _ 9 1 x2 b.length _ at r2
  obtain ⟨xa, xc, rfl⟩ := row_slice r1
  obtain ⟨ya, yc, rfl⟩ := row_slice r2
  have X1 := Lib.hid r1
  clear r1
  have X2 := Lib.hid r2
  clear r2
  have lT_7 : w.heap.size < w7.heap.size := KT_7.out.lt
  have cT_0_7 : w7.cell? ⟨w.heap.size, 0, none⟩ = some (.slice va a.length vc) := KT_7.out.cell 0
  have cT_1_7 : w7.cell? ⟨w.heap.size, 1, none⟩ = some (.slice ua b.length uc) := KT_7.out.cell 1
  go_wp2_with fail
  clear lT_7 cT_0_7 cT_1_7
  have a2 : Below w7.heap.size w7 (w7.alloc (.cells #[.slice xa a.length xc, .slice ya b.length yc] 24)) := ((Below.refl w7.heap.size w7).alloc (by first | exact Nat.le_refl _ | (simp only [World.size_alloc]; omega)) (.cells #[.slice xa a.length xc, .slice ya b.length yc] 24))
  have X_new7 := (Blk.new w7 #[.slice xa a.length xc, .slice ya b.length yc] 24)
  have KX_07 := Lib.hid X_new7
  clear X_new7
  have V_8 := Lib.hid (V_7.out.below a2)
  clear V_7
  have U_8 := Lib.hid (U_7.out.below a2)
  clear U_7
  have V'_8 := Lib.hid (V'_7.out.below a2)
  clear V'_7
  have U'_8 := Lib.hid (U'_7.out.below a2)
  clear U'_7
  have X1_8 := Lib.hid (row_below X1.out a2)
  clear X1
  have X2_8 := Lib.hid (row_below X2.out a2)
  clear X2
  have KT_8 := Lib.hid (KT_7.out.below a2 KT_7.out.lt)
  clear KT_7
  have KO_8 := Lib.hid (KO_7.out.below a2 KO_7.out.lt)
  clear KO_7
  have B_8 := Lib.hid (B_7.out.trans (a2.mono B_7.out.size))
  clear B_7
  clear a2
  generalize (w7.alloc (.cells #[.slice xa a.length xc, .slice ya b.length yc] 24)) = w8 at V_8 U_8 V'_8 U'_8 X1_8 X2_8 KT_8 KO_8 KX_07 B_8 ⊢
  refine (ahead_ex a b _ _ s r k _ V_8.out U_8.out ZA.out ZB.out HS.out HR.out).mono ?_
  rintro e w9 ⟨rfl, b9⟩
  have V_9 := Lib.hid (V_8.out.below b9)
  clear V_8
  have U_9 := Lib.hid (U_8.out.below b9)
  clear U_8
  have V'_9 := Lib.hid (V'_8.out.below b9)
  clear V'_8
  have U'_9 := Lib.hid (U'_8.out.below b9)
  clear U'_8
  have X1_9 := Lib.hid (row_below X1_8.out b9)
  clear X1_8
  have X2_9 := Lib.hid (row_below X2_8.out b9)
  clear X2_8
  have KT_9 := Lib.hid (KT_8.out.below b9 KT_8.out.lt)
  clear KT_8
  have KO_9 := Lib.hid (KO_8.out.below b9 KO_8.out.lt)
  clear KO_8
  have KX_9 := Lib.hid (KX_07.out.below b9 KX_07.out.lt)
  clear KX_07
  have B_9 := Lib.hid (B_8.out.trans (b9.mono B_8.out.size))
  clear B_8
  clear b9
  have lT_9 : w.heap.size < w9.heap.size := KT_9.out.lt
  have cT_0_9 : w9.cell? ⟨w.heap.size, 0, none⟩ = some (.slice va a.length vc) := KT_9.out.cell 0
  have cT_1_9 : w9.cell? ⟨w.heap.size, 1, none⟩ = some (.slice ua b.length uc) := KT_9.out.cell 1
  go_wp2_with fail
  clear lT_9 cT_0_9 cT_1_9
  refine (of_any _ _ _ ⟨_, _, _, rfl⟩ ⟨_, _, _, rfl⟩).mono ?_
  rintro e w10 ⟨rfl, b10⟩
  have V_10 := Lib.hid (V_9.out.below b10)
  clear V_9
  have U_10 := Lib.hid (U_9.out.below b10)
  clear U_9
  have V'_10 := Lib.hid (V'_9.out.below b10)
  clear V'_9
  have U'_10 := Lib.hid (U'_9.out.below b10)
  clear U'_9
  have X1_10 := Lib.hid (row_below X1_9.out b10)
  clear X1_9
  have X2_10 := Lib.hid (row_below X2_9.out b10)
  clear X2_9
  have KT_10 := Lib.hid (KT_9.out.below b10 KT_9.out.lt)
  clear KT_9
  have KO_10 := Lib.hid (KO_9.out.below b10 KO_9.out.lt)
  clear KO_9
  have KX_10 := Lib.hid (KX_9.out.below b10 KX_9.out.lt)
  clear KX_9
  have B_10 := Lib.hid (B_9.out.trans (b10.mono B_9.out.size))
  clear B_9
  clear b10
  go_wp2_with fail
  refine (rahead_ex a b _ _ s r k _ V_10.out U_10.out ZA.out ZB.out HC.out HC'.out HR.out).mono ?_
  rintro e w11 ⟨rfl, b11⟩
  have V_11 := Lib.hid (V_10.out.below b11)
  clear V_10
  have U_11 := Lib.hid (U_10.out.below b11)
  clear U_10
  have V'_11 := Lib.hid (V'_10.out.below b11)
  clear V'_10
  have U'_11 := Lib.hid (U'_10.out.below b11)
  clear U'_10
  have X1_11 := Lib.hid (row_below X1_10.out b11)
  clear X1_10
  have X2_11 := Lib.hid (row_below X2_10.out b11)
  clear X2_10
  have KT_11 := Lib.hid (KT_10.out.below b11 KT_10.out.lt)
  clear KT_10
  have KO_11 := Lib.hid (KO_10.out.below b11 KO_10.out.lt)
  clear KO_10
  have KX_11 := Lib.hid (KX_10.out.below b11 KX_10.out.lt)
  clear KX_10
  have B_11 := Lib.hid (B_10.out.trans (b11.mono B_10.out.size))
  clear B_10
  clear b11
  have lT_11 : w.heap.size < w11.heap.size := KT_11.out.lt
  have cT_0_11 : w11.cell? ⟨w.heap.size, 0, none⟩ = some (.slice va a.length vc) := KT_11.out.cell 0
  have cT_1_11 : w11.cell? ⟨w.heap.size, 1, none⟩ = some (.slice ua b.length uc) := KT_11.out.cell 1
  go_wp2_with fail
  clear lT_11 cT_0_11 cT_1_11
  refine (back_ex a b _ _ s r2 k2 _ V_11.out U_11.out ZA.out ZB.out HS.out HR2.out).mono ?_
  rintro e w12 ⟨rfl, b12⟩
  have V_12 := Lib.hid (V_11.out.below b12)
  clear V_11
  have U_12 := Lib.hid (U_11.out.below b12)
  clear U_11
  have V'_12 := Lib.hid (V'_11.out.below b12)
  clear V'_11
  have U'_12 := Lib.hid (U'_11.out.below b12)
  clear U'_11
  have X1_12 := Lib.hid (row_below X1_11.out b12)
  clear X1_11
  have X2_12 := Lib.hid (row_below X2_11.out b12)
  clear X2_11
  have KT_12 := Lib.hid (KT_11.out.below b12 KT_11.out.lt)
  clear KT_11
  have KO_12 := Lib.hid (KO_11.out.below b12 KO_11.out.lt)
  clear KO_11
  have KX_12 := Lib.hid (KX_11.out.below b12 KX_11.out.lt)
  clear KX_11
  have B_12 := Lib.hid (B_11.out.trans (b12.mono B_11.out.size))
  clear B_11
  clear b12
  have lT_12 : w.heap.size < w12.heap.size := KT_12.out.lt
  have cT_0_12 : w12.cell? ⟨w.heap.size, 0, none⟩ = some (.slice va a.length vc) := KT_12.out.cell 0
  have cT_1_12 : w12.cell? ⟨w.heap.size, 1, none⟩ = some (.slice ua b.length uc) := KT_12.out.cell 1
  go_wp2_with fail
  clear lT_12 cT_0_12 cT_1_12
  refine (of_any _ _ _ ⟨_, _, _, rfl⟩ ⟨_, _, _, rfl⟩).mono ?_
  rintro e w13 ⟨rfl, b13⟩
  have V_13 := Lib.hid (V_12.out.below b13)
  clear V_12
  have U_13 := Lib.hid (U_12.out.below b13)
  clear U_12
  have V'_13 := Lib.hid (V'_12.out.below b13)
  clear V'_12
  have U'_13 := Lib.hid (U'_12.out.below b13)
  clear U'_12
  have X1_13 := Lib.hid (row_below X1_12.out b13)
  clear X1_12
  have X2_13 := Lib.hid (row_below X2_12.out b13)
  clear X2_12
  have KT_13 := Lib.hid (KT_12.out.below b13 KT_12.out.lt)
  clear KT_12
  have KO_13 := Lib.hid (KO_12.out.below b13 KO_12.out.lt)
  clear KO_12
  have KX_13 := Lib.hid (KX_12.out.below b13 KX_12.out.lt)
  clear KX_12
  have B_13 := Lib.hid (B_12.out.trans (b13.mono B_12.out.size))
  clear B_12
  clear b13
  go_wp2_with fail
  refine (rinv_yes a b _ _ _ V_13.out U_13.out ZA.out ZB.out HC.out HC'.out H0.out).mono ?_
  rintro e w14 ⟨rfl, b14⟩
  have V_14 := Lib.hid (V_13.out.below b14)
  clear V_13
  have U_14 := Lib.hid (U_13.out.below b14)
  clear U_13
  have V'_14 := Lib.hid (V'_13.out.below b14)
  clear V'_13
  have U'_14 := Lib.hid (U'_13.out.below b14)
  clear U'_13
  have X1_14 := Lib.hid (row_below X1_13.out b14)
  clear X1_13
  have X2_14 := Lib.hid (row_below X2_13.out b14)
  clear X2_13
  have KT_14 := Lib.hid (KT_13.out.below b14 KT_13.out.lt)
  clear KT_13
  have KO_14 := Lib.hid (KO_13.out.below b14 KO_13.out.lt)
  clear KO_13
  have KX_14 := Lib.hid (KX_13.out.below b14 KX_13.out.lt)
  clear KX_13
  have B_14 := Lib.hid (B_13.out.trans (b14.mono B_13.out.size))
  clear B_13
  clear b14
  go_wp2_with fail
  refine (rahead_ex b a _ _ s r2 k2 _ U_14.out V_14.out ZB.out ZA.out HC'.out HC.out HR2.out).mono ?_
  rintro e w15 ⟨rfl, b15⟩
  have V_15 := Lib.hid (V_14.out.below b15)
  clear V_14
  have U_15 := Lib.hid (U_14.out.below b15)
  clear U_14
  have V'_15 := Lib.hid (V'_14.out.below b15)
  clear V'_14
  have U'_15 := Lib.hid (U'_14.out.below b15)
  clear U'_14
  have X1_15 := Lib.hid (row_below X1_14.out b15)
  clear X1_14
  have X2_15 := Lib.hid (row_below X2_14.out b15)
  clear X2_14
  have KT_15 := Lib.hid (KT_14.out.below b15 KT_14.out.lt)
  clear KT_14
  have KO_15 := Lib.hid (KO_14.out.below b15 KO_14.out.lt)
  clear KO_14
  have KX_15 := Lib.hid (KX_14.out.below b15 KX_14.out.lt)
  clear KX_14
  have B_15 := Lib.hid (B_14.out.trans (b15.mono B_14.out.size))
  clear B_14
  clear b15
  have lT_15 : w.heap.size < w15.heap.size := KT_15.out.lt
  have cT_0_15 : w15.cell? ⟨w.heap.size, 0, none⟩ = some (.slice va a.length vc) := KT_15.out.cell 0
  have cT_1_15 : w15.cell? ⟨w.heap.size, 1, none⟩ = some (.slice ua b.length uc) := KT_15.out.cell 1
  go_wp2_with fail
  clear lT_15 cT_0_15 cT_1_15
  have hd16 : Below w15.heap.size w15 w15.drew := (Below.refl _ _).drew
  have HS16 : Hid (∀ X : World, Below w15.heap.size w15 X → X.cell? ⟨w.heap.size, 0, none⟩ = some (.slice va a.length vc) ∧ X.cell? ⟨w.heap.size, 1, none⟩ = some (.slice ua b.length uc) ∧ X.cell? ⟨w.heap.size + 1, 0, none⟩ = some (.slice va' a'.length vc') ∧ X.cell? ⟨w.heap.size + 1, 1, none⟩ = some (.slice ua' b'.length uc')) := Lib.hid fun X h => ⟨(h.cell (p := ⟨w.heap.size, 0, none⟩) KT_15.out.lt).trans (KT_15.out.cell 0), (h.cell (p := ⟨w.heap.size, 1, none⟩) KT_15.out.lt).trans (KT_15.out.cell 1), (h.cell (p := ⟨w.heap.size + 1, 0, none⟩) KO_15.out.lt).trans (KO_15.out.cell 0), (h.cell (p := ⟨w.heap.size + 1, 1, none⟩) KO_15.out.lt).trans (KO_15.out.cell 1)⟩
  obtain ⟨x16_0, x16_1, x16_2, x16_3⟩ := HS16.out _ hd16
  go_region_held3 (fun X => X.cell? ⟨w.heap.size, 0, none⟩ = some (.slice va a.length vc) ∧ X.cell? ⟨w.heap.size, 1, none⟩ = some (.slice ua b.length uc) ∧ X.cell? ⟨w.heap.size + 1, 0, none⟩ = some (.slice va' a'.length vc') ∧ X.cell? ⟨w.heap.size + 1, 1, none⟩ = some (.slice ua' b'.length uc') ∧ Below w15.heap.size w15 X) (go_keep)
    (first | (go_at_call 17; (with_reducible refine (of_any _ _ _ ⟨_, _, _, rfl⟩ ⟨_, _, _, rfl⟩).mono ?_); rintro e w16 ⟨rfl, hb⟩; have rB16 := chain (a := w15) hb (by assumption); obtain ⟨x16_0, x16_1, x16_2, x16_3⟩ := HS16.out _ rB16; clear hb) | (go_at_call 23; (with_reducible refine (rsame_ex a b a' b' _ _ _ _ sm _ (by omega) (by omega) (by omega) (by omega) (V_15.out.below (by assumption)) (U_15.out.below (by assumption)) (V'_15.out.below (by assumption)) (U'_15.out.below (by assumption)) HSM.out).mono ?_); rintro e w16 ⟨rfl, hb⟩; have rB16 := chain (a := w15) hb (by assumption); obtain ⟨x16_0, x16_1, x16_2, x16_3⟩ := HS16.out _ rB16; clear hb))
  have b16 : Below w15.heap.size w15 w16 := by assumption
  clear HS16
  have V_16 := Lib.hid (V_15.out.below b16)
  clear V_15
  have U_16 := Lib.hid (U_15.out.below b16)
  clear U_15
  have V'_16 := Lib.hid (V'_15.out.below b16)
  clear V'_15
  have U'_16 := Lib.hid (U'_15.out.below b16)
  clear U'_15
  have X1_16 := Lib.hid (row_below X1_15.out b16)
  clear X1_15
  have X2_16 := Lib.hid (row_below X2_15.out b16)
  clear X2_15
  have KT_16 := Lib.hid (KT_15.out.below b16 KT_15.out.lt)
  clear KT_15
  have KO_16 := Lib.hid (KO_15.out.below b16 KO_15.out.lt)
  clear KO_15
  have KX_16 := Lib.hid (KX_15.out.below b16 KX_15.out.lt)
  clear KX_15
  have B_16 := Lib.hid (B_15.out.trans (b16.mono B_15.out.size))
  clear B_15
  go_wp2_with fail
  have hd17 : Below w16.heap.size w16 w16.drew := (Below.refl _ _).drew
  have HS17 : Hid (∀ X : World, Below w16.heap.size w16 X → X.cell? ⟨w.heap.size, 0, none⟩ = some (.slice va a.length vc) ∧ X.cell? ⟨w.heap.size, 1, none⟩ = some (.slice ua b.length uc) ∧ X.cell? ⟨w7.heap.size, 0, none⟩ = some (.slice xa a.length xc) ∧ X.cell? ⟨w7.heap.size, 1, none⟩ = some (.slice ya b.length yc)) := Lib.hid fun X h => ⟨(h.cell (p := ⟨w.heap.size, 0, none⟩) KT_16.out.lt).trans (KT_16.out.cell 0), (h.cell (p := ⟨w.heap.size, 1, none⟩) KT_16.out.lt).trans (KT_16.out.cell 1), (h.cell (p := ⟨w7.heap.size, 0, none⟩) KX_16.out.lt).trans (KX_16.out.cell 0), (h.cell (p := ⟨w7.heap.size, 1, none⟩) KX_16.out.lt).trans (KX_16.out.cell 1)⟩
  obtain ⟨x17_0, x17_1, x17_2, x17_3⟩ := HS17.out _ hd17
  go_region_held3 (fun X => X.cell? ⟨w.heap.size, 0, none⟩ = some (.slice va a.length vc) ∧ X.cell? ⟨w.heap.size, 1, none⟩ = some (.slice ua b.length uc) ∧ X.cell? ⟨w7.heap.size, 0, none⟩ = some (.slice xa a.length xc) ∧ X.cell? ⟨w7.heap.size, 1, none⟩ = some (.slice ya b.length yc) ∧ Below w16.heap.size w16 X) (go_keep)
    (first | (go_at_call 17; (with_reducible refine (of_any _ _ _ ⟨_, _, _, rfl⟩ ⟨_, _, _, rfl⟩).mono ?_); rintro e w17 ⟨rfl, hb⟩; have rB17 := chain (a := w16) hb (by assumption); obtain ⟨x17_0, x17_1, x17_2, x17_3⟩ := HS17.out _ rB17; clear hb) | (go_at_call 23; (with_reducible refine (rsame_ex a b a b _ _ _ _ true _ (by first | omega | simp) (by first | omega | simp) (by omega) (by omega) (Lst.of_row (ec := stc) (l := a) (row_below X1_16.out (by assumption))) (Lst.of_row (ec := stc) (l := b) (row_below X2_16.out (by assumption))) (V_16.out.below (by assumption)) (U_16.out.below (by assumption)) (both_self a b)).mono ?_); rintro e w17 ⟨rfl, hb⟩; have rB17 := chain (a := w16) hb (by assumption); obtain ⟨x17_0, x17_1, x17_2, x17_3⟩ := HS17.out _ rB17; clear hb))
  have b17 : Below w16.heap.size w16 w17 := by assumption
  clear HS17
  have V_17 := Lib.hid (V_16.out.below b17)
  clear V_16
  have U_17 := Lib.hid (U_16.out.below b17)
  clear U_16
  have V'_17 := Lib.hid (V'_16.out.below b17)
  clear V'_16
  have U'_17 := Lib.hid (U'_16.out.below b17)
  clear U'_16
  have X1_17 := Lib.hid (row_below X1_16.out b17)
  clear X1_16
  have X2_17 := Lib.hid (row_below X2_16.out b17)
  clear X2_16
  have KT_17 := Lib.hid (KT_16.out.below b17 KT_16.out.lt)
  clear KT_16
  have KO_17 := Lib.hid (KO_16.out.below b17 KO_16.out.lt)
  clear KO_16
  have KX_17 := Lib.hid (KX_16.out.below b17 KX_16.out.lt)
  clear KX_16
  have B_17 := Lib.hid (B_16.out.trans (b17.mono B_16.out.size))
  clear B_16
  have lT_17 : w.heap.size < w17.heap.size := KT_17.out.lt
  have cT_0_17 : w17.cell? ⟨w.heap.size, 0, none⟩ = some (.slice va a.length vc) := KT_17.out.cell 0
  have cT_1_17 : w17.cell? ⟨w.heap.size, 1, none⟩ = some (.slice ua b.length uc) := KT_17.out.cell 1
  have lO_17 : w.heap.size + 1 < w17.heap.size := KO_17.out.lt
  have cO_0_17 : w17.cell? ⟨w.heap.size + 1, 0, none⟩ = some (.slice va' a'.length vc') := KO_17.out.cell 0
  have cO_1_17 : w17.cell? ⟨w.heap.size + 1, 1, none⟩ = some (.slice ua' b'.length uc') := KO_17.out.cell 1
  have lX_17 : w7.heap.size < w17.heap.size := KX_17.out.lt
  have cX_0_17 : w17.cell? ⟨w7.heap.size, 0, none⟩ = some (.slice xa a.length xc) := KX_17.out.cell 0
  have cX_1_17 : w17.cell? ⟨w7.heap.size, 1, none⟩ = some (.slice ya b.length yc) := KX_17.out.cell 1
  go_wp2_with fail
  clear lT_17 cT_0_17 cT_1_17 lO_17 cO_0_17 cO_1_17 lX_17 cX_0_17 cX_1_17
  refine (check_ex a b _ _ 0 _ V_17.out U_17.out ZA.out ZB.out H0.out).mono ?_
  rintro e w18 ⟨rfl, b18⟩
  have V_18 := Lib.hid (V_17.out.below b18)
  clear V_17
  have U_18 := Lib.hid (U_17.out.below b18)
  clear U_17
  have V'_18 := Lib.hid (V'_17.out.below b18)
  clear V'_17
  have U'_18 := Lib.hid (U'_17.out.below b18)
  clear U'_17
  have X1_18 := Lib.hid (row_below X1_17.out b18)
  clear X1_17
  have X2_18 := Lib.hid (row_below X2_17.out b18)
  clear X2_17
  have KT_18 := Lib.hid (KT_17.out.below b18 KT_17.out.lt)
  clear KT_17
  have KO_18 := Lib.hid (KO_17.out.below b18 KO_17.out.lt)
  clear KO_17
  have KX_18 := Lib.hid (KX_17.out.below b18 KX_17.out.lt)
  clear KX_17
  have B_18 := Lib.hid (B_17.out.trans (b18.mono B_17.out.size))
  clear B_17
  clear b18
  have lT_18 : w.heap.size < w18.heap.size := KT_18.out.lt
  have cT_0_18 : w18.cell? ⟨w.heap.size, 0, none⟩ = some (.slice va a.length vc) := KT_18.out.cell 0
  have cT_1_18 : w18.cell? ⟨w.heap.size, 1, none⟩ = some (.slice ua b.length uc) := KT_18.out.cell 1
  have lO_18 : w.heap.size + 1 < w18.heap.size := KO_18.out.lt
  have cO_0_18 : w18.cell? ⟨w.heap.size + 1, 0, none⟩ = some (.slice va' a'.length vc') := KO_18.out.cell 0
  have cO_1_18 : w18.cell? ⟨w.heap.size + 1, 1, none⟩ = some (.slice ua' b'.length uc') := KO_18.out.cell 1
  have lX_18 : w7.heap.size < w18.heap.size := KX_18.out.lt
  have cX_0_18 : w18.cell? ⟨w7.heap.size, 0, none⟩ = some (.slice xa a.length xc) := KX_18.out.cell 0
  have cX_1_18 : w18.cell? ⟨w7.heap.size, 1, none⟩ = some (.slice ya b.length yc) := KX_18.out.cell 1
  go_wp2_with fail
  clear lT_18 cT_0_18 cT_1_18 lO_18 cO_0_18 cO_1_18 lX_18 cX_0_18 cX_1_18
  refine (same_ex a b a' b' _ _ _ _ sm _ (by omega) (by omega) (by omega) (by omega) V_18.out U_18.out V'_18.out U'_18.out HSM.out).mono ?_
  rintro e w19 ⟨rfl, b19⟩
  have V_19 := Lib.hid (V_18.out.below b19)
  clear V_18
  have U_19 := Lib.hid (U_18.out.below b19)
  clear U_18
  have V'_19 := Lib.hid (V'_18.out.below b19)
  clear V'_18
  have U'_19 := Lib.hid (U'_18.out.below b19)
  clear U'_18
  have X1_19 := Lib.hid (row_below X1_18.out b19)
  clear X1_18
  have X2_19 := Lib.hid (row_below X2_18.out b19)
  clear X2_18
  have KT_19 := Lib.hid (KT_18.out.below b19 KT_18.out.lt)
  clear KT_18
  have KO_19 := Lib.hid (KO_18.out.below b19 KO_18.out.lt)
  clear KO_18
  have KX_19 := Lib.hid (KX_18.out.below b19 KX_18.out.lt)
  clear KX_18
  have B_19 := Lib.hid (B_18.out.trans (b19.mono B_18.out.size))
  clear B_18
  clear b19
  go_wp2
  go_ret
  exact ⟨rfl, B_19.out⟩

theorem tells_bad (a b a' b' : List ByteArray) (v u v' u' : Value) (s : ByteArray) (w : World) (hv : Lst stc w v a) (hu : Lst stc w u b) (hv' : Lst stc w v' a') (hu' : Lst stc w u' b') (hc : CapFine v) (hc' : CapFine u) (hn : NilFine v) (hn' : NilFine u) (h1 : (fewB a 210 && fewB b 210) = true) (h2 : (fewB a' 210 && fewB b' 210) = true) (h3 : ¬ (60 : Int) < (s.size : Int)) (h0 : ¬ checkF a b = 0) :
    Calls Try.prog 3 #[.agg #[v, u], .agg #[v', u'], .string s] w fun e w' => e = .returned (.bool true) ∧ Below w.heap.size w w' := by
  have HC := Lib.hid hc
  have HC' := Lib.hid hc'
  have H1 := Lib.hid h1
  have H2 := Lib.hid h2
  have HN := Lib.hid hn
  have HN' := Lib.hid hn'
  obtain ⟨f1, f2⟩ := Bool.and_eq_true_iff.1 h1
  obtain ⟨f3, f4⟩ := Bool.and_eq_true_iff.1 h2
  obtain ⟨la, za⟩ := few_of f1
  obtain ⟨lb, zb⟩ := few_of f2
  obtain ⟨la', za'⟩ := few_of f3
  obtain ⟨lb', zb'⟩ := few_of f4
  have ZA := Lib.hid za
  have ZB := Lib.hid zb
  have h3' : decide ((60 : Int) < (s.size : Int)) = false := decide_eq_false h3
  have HS := Lib.hid (show s.size ≤ 60 by omega)
  have H0 := Lib.hid h0
  obtain ⟨sm, hsm⟩ : ∃ q, (eqL stEq a a' && eqL stEq b b') = q := ⟨_, rfl⟩
  have HSM := Lib.hid hsm
  clear hc hc' h1 h2 hn hn' f1 f2 f3 f4 za zb za' zb' h3 hsm
  obtain ⟨q, hq⟩ : ∃ q, checkF a b = q := ⟨_, rfl⟩
  have HQ := Lib.hid hq
  have hq0 : ¬ q = 0 := hq ▸ h0
  have hne : (q != 0) = true := by rw [bne_iff_ne]; exact hq0
  have heq : (q == 0) = false := by rw [beq_eq_false_iff_ne]; exact hq0
  have HQ0 := Lib.hid hq0
  obtain ⟨wh, hwh⟩ : ∃ p, (eqL stEq ([] : List ByteArray) a && eqL stEq ([] : List ByteArray) b) = p := ⟨_, rfl⟩
  have HWH := Lib.hid hwh
  have HR := Lib.hid (aheadF_no h0 s)
  have HR2 := Lib.hid (aheadF_no (fun h => h0 (check_turn.2 h)) s)
  clear h0 hq hq0 hwh
  have HV := Lib.hid hv
  have HU := Lib.hid hu
  have HV' := Lib.hid hv'
  have HU' := Lib.hid hu'
  obtain ⟨va, vc, rfl⟩ := hv.slice
  obtain ⟨ua, uc, rfl⟩ := hu.slice
  obtain ⟨va', vc', rfl⟩ := hv'.slice
  obtain ⟨ua', uc', rfl⟩ := hu'.slice
  clear hv hu hv' hu'
  go_enter Try.func3, Try.ntmps3
  go_wp2_with fail
  have a1 : Below w.heap.size w ((w.alloc (.cells #[.slice va a.length vc, .slice ua b.length uc] 24)).alloc (.cells #[.slice va' a'.length vc', .slice ua' b'.length uc'] 24)) := (((Below.refl w.heap.size w).alloc (by first | exact Nat.le_refl _ | (simp only [World.size_alloc]; omega)) (.cells #[.slice va a.length vc, .slice ua b.length uc] 24)).alloc (by first | exact Nat.le_refl _ | (simp only [World.size_alloc]; omega)) (.cells #[.slice va' a'.length vc', .slice ua' b'.length uc'] 24))
  have T_new0 := ((Blk.new w #[.slice va a.length vc, .slice ua b.length uc] 24).alloc (.cells #[.slice va' a'.length vc', .slice ua' b'.length uc'] 24))
  have KT_00 := Lib.hid T_new0
  clear T_new0
  have O_new0 := (Blk.new (w.alloc (.cells #[.slice va a.length vc, .slice ua b.length uc] 24)) #[.slice va' a'.length vc', .slice ua' b'.length uc'] 24)
  rw [World.size_alloc] at O_new0
  have KO_00 := Lib.hid O_new0
  clear O_new0
  have V_1 := Lib.hid (HV.out.below a1)
  clear HV
  have U_1 := Lib.hid (HU.out.below a1)
  clear HU
  have V'_1 := Lib.hid (HV'.out.below a1)
  clear HV'
  have U'_1 := Lib.hid (HU'.out.below a1)
  clear HU'
  have B_1 := Lib.hid a1
  clear a1
  generalize ((w.alloc (.cells #[.slice va a.length vc, .slice ua b.length uc] 24)).alloc (.cells #[.slice va' a'.length vc', .slice ua' b'.length uc'] 24)) = w1 at V_1 U_1 V'_1 U'_1 KT_00 KO_00 B_1 ⊢
  refine (works_any _).mono ?_
  rintro e w2 ⟨rfl, b2⟩
  have V_2 := Lib.hid (V_1.out.below b2)
  clear V_1
  have U_2 := Lib.hid (U_1.out.below b2)
  clear U_1
  have V'_2 := Lib.hid (V'_1.out.below b2)
  clear V'_1
  have U'_2 := Lib.hid (U'_1.out.below b2)
  clear U'_1
  have KT_2 := Lib.hid (KT_00.out.below b2 KT_00.out.lt)
  clear KT_00
  have KO_2 := Lib.hid (KO_00.out.below b2 KO_00.out.lt)
  clear KO_00
  have B_2 := Lib.hid (B_1.out.trans (b2.mono B_1.out.size))
  clear B_1
  clear b2
  have lT_2 : w.heap.size < w2.heap.size := KT_2.out.lt
  have cT_0_2 : w2.cell? ⟨w.heap.size, 0, none⟩ = some (.slice va a.length vc) := KT_2.out.cell 0
  have cT_1_2 : w2.cell? ⟨w.heap.size, 1, none⟩ = some (.slice ua b.length uc) := KT_2.out.cell 1
  have lO_2 : w.heap.size + 1 < w2.heap.size := KO_2.out.lt
  have cO_0_2 : w2.cell? ⟨w.heap.size + 1, 0, none⟩ = some (.slice va' a'.length vc') := KO_2.out.cell 0
  have cO_1_2 : w2.cell? ⟨w.heap.size + 1, 1, none⟩ = some (.slice ua' b'.length uc') := KO_2.out.cell 1
  go_wp2_with fail
  clear lT_2 cT_0_2 cT_1_2 lO_2 cO_0_2 cO_1_2
  refine (few_ex a b _ _ true _ V_2.out U_2.out H1.out).mono ?_
  rintro e w3 ⟨rfl, b3⟩
  have V_3 := Lib.hid (V_2.out.below b3)
  clear V_2
  have U_3 := Lib.hid (U_2.out.below b3)
  clear U_2
  have V'_3 := Lib.hid (V'_2.out.below b3)
  clear V'_2
  have U'_3 := Lib.hid (U'_2.out.below b3)
  clear U'_2
  have KT_3 := Lib.hid (KT_2.out.below b3 KT_2.out.lt)
  clear KT_2
  have KO_3 := Lib.hid (KO_2.out.below b3 KO_2.out.lt)
  clear KO_2
  have B_3 := Lib.hid (B_2.out.trans (b3.mono B_2.out.size))
  clear B_2
  clear b3
  have lT_3 : w.heap.size < w3.heap.size := KT_3.out.lt
  have cT_0_3 : w3.cell? ⟨w.heap.size, 0, none⟩ = some (.slice va a.length vc) := KT_3.out.cell 0
  have cT_1_3 : w3.cell? ⟨w.heap.size, 1, none⟩ = some (.slice ua b.length uc) := KT_3.out.cell 1
  have lO_3 : w.heap.size + 1 < w3.heap.size := KO_3.out.lt
  have cO_0_3 : w3.cell? ⟨w.heap.size + 1, 0, none⟩ = some (.slice va' a'.length vc') := KO_3.out.cell 0
  have cO_1_3 : w3.cell? ⟨w.heap.size + 1, 1, none⟩ = some (.slice ua' b'.length uc') := KO_3.out.cell 1
  go_wp2_with fail
  clear lT_3 cT_0_3 cT_1_3 lO_3 cO_0_3 cO_1_3
  refine (few_ex a' b' _ _ true _ V'_3.out U'_3.out H2.out).mono ?_
  rintro e w4 ⟨rfl, b4⟩
  have V_4 := Lib.hid (V_3.out.below b4)
  clear V_3
  have U_4 := Lib.hid (U_3.out.below b4)
  clear U_3
  have V'_4 := Lib.hid (V'_3.out.below b4)
  clear V'_3
  have U'_4 := Lib.hid (U'_3.out.below b4)
  clear U'_3
  have KT_4 := Lib.hid (KT_3.out.below b4 KT_3.out.lt)
  clear KT_3
  have KO_4 := Lib.hid (KO_3.out.below b4 KO_3.out.lt)
  clear KO_3
  have B_4 := Lib.hid (B_3.out.trans (b4.mono B_3.out.size))
  clear B_3
  clear b4
  have lT_4 : w.heap.size < w4.heap.size := KT_4.out.lt
  have cT_0_4 : w4.cell? ⟨w.heap.size, 0, none⟩ = some (.slice va a.length vc) := KT_4.out.cell 0
  have cT_1_4 : w4.cell? ⟨w.heap.size, 1, none⟩ = some (.slice ua b.length uc) := KT_4.out.cell 1
  go_wp2_with fail
  clear lT_4 cT_0_4 cT_1_4
  refine (of_any _ _ _ ⟨_, _, _, rfl⟩ ⟨_, _, _, rfl⟩).mono ?_
  rintro e w5 ⟨rfl, b5⟩
  have V_5 := Lib.hid (V_4.out.below b5)
  clear V_4
  have U_5 := Lib.hid (U_4.out.below b5)
  clear U_4
  have V'_5 := Lib.hid (V'_4.out.below b5)
  clear V'_4
  have U'_5 := Lib.hid (U'_4.out.below b5)
  clear U'_4
  have KT_5 := Lib.hid (KT_4.out.below b5 KT_4.out.lt)
  clear KT_4
  have KO_5 := Lib.hid (KO_4.out.below b5 KO_4.out.lt)
  clear KO_4
  have B_5 := Lib.hid (B_4.out.trans (b5.mono B_4.out.size))
  clear B_4
  clear b5
  go_wp2_with fail
  refine (rcheck_ex a b _ _ q _ V_5.out U_5.out ZA.out ZB.out HC.out HC'.out HQ.out).mono ?_
  rintro e w6 ⟨rfl, b6⟩
  have V_6 := Lib.hid (V_5.out.below b6)
  clear V_5
  have U_6 := Lib.hid (U_5.out.below b6)
  clear U_5
  have V'_6 := Lib.hid (V'_5.out.below b6)
  clear V'_5
  have U'_6 := Lib.hid (U'_5.out.below b6)
  clear U'_5
  have KT_6 := Lib.hid (KT_5.out.below b6 KT_5.out.lt)
  clear KT_5
  have KO_6 := Lib.hid (KO_5.out.below b6 KO_5.out.lt)
  clear KO_5
  have B_6 := Lib.hid (B_5.out.trans (b6.mono B_5.out.size))
  clear B_5
  clear b6
  have lT_6 : w.heap.size < w6.heap.size := KT_6.out.lt
  have cT_0_6 : w6.cell? ⟨w.heap.size, 0, none⟩ = some (.slice va a.length vc) := KT_6.out.cell 0
  have cT_1_6 : w6.cell? ⟨w.heap.size, 1, none⟩ = some (.slice ua b.length uc) := KT_6.out.cell 1
  go_wp2_with fail
  clear lT_6 cT_0_6 cT_1_6
  refine (of_ex a b _ _ q _ V_6.out U_6.out ZA.out ZB.out HN.out HN'.out HQ.out).mono ?_
  rintro e w7 ⟨V1, rfl, ht, b7⟩
  have V_7 := Lib.hid (V_6.out.below b7)
  clear V_6
  have U_7 := Lib.hid (U_6.out.below b7)
  clear U_6
  have V'_7 := Lib.hid (V'_6.out.below b7)
  clear V'_6
  have U'_7 := Lib.hid (U'_6.out.below b7)
  clear U'_6
  have KT_7 := Lib.hid (KT_6.out.below b7 KT_6.out.lt)
  clear KT_6
  have KO_7 := Lib.hid (KO_6.out.below b7 KO_6.out.lt)
  clear KO_6
  have B_7 := Lib.hid (B_6.out.trans (b7.mono B_6.out.size))
  clear B_6
  clear b7
  rw [okL_no HQ0.out, okL_no HQ0.out] at ht
  obtain ⟨x1, x2, rfl, r1, r2⟩ := ht
  change World.ownsRow _ _ 9 1 x1 0 _ at r1
  change World.ownsRow _ _ 9 1 x2 0 _ at r2
  obtain ⟨xa, xc, rfl⟩ := row_slice r1
  obtain ⟨ya, yc, rfl⟩ := row_slice r2
  have X1 := Lib.hid r1
  clear r1
  have X2 := Lib.hid r2
  clear r2
  have lT_7 : w.heap.size < w7.heap.size := KT_7.out.lt
  have cT_0_7 : w7.cell? ⟨w.heap.size, 0, none⟩ = some (.slice va a.length vc) := KT_7.out.cell 0
  have cT_1_7 : w7.cell? ⟨w.heap.size, 1, none⟩ = some (.slice ua b.length uc) := KT_7.out.cell 1
  go_wp2_with fail
  clear lT_7 cT_0_7 cT_1_7
  have a2 : Below w7.heap.size w7 (w7.alloc (.cells #[.slice xa 0 xc, .slice ya 0 yc] 24)) := ((Below.refl w7.heap.size w7).alloc (by first | exact Nat.le_refl _ | (simp only [World.size_alloc]; omega)) (.cells #[.slice xa 0 xc, .slice ya 0 yc] 24))
  have X_new7 := (Blk.new w7 #[.slice xa 0 xc, .slice ya 0 yc] 24)
  have KX_07 := Lib.hid X_new7
  clear X_new7
  have V_8 := Lib.hid (V_7.out.below a2)
  clear V_7
  have U_8 := Lib.hid (U_7.out.below a2)
  clear U_7
  have V'_8 := Lib.hid (V'_7.out.below a2)
  clear V'_7
  have U'_8 := Lib.hid (U'_7.out.below a2)
  clear U'_7
  have X1_8 := Lib.hid (row_below X1.out a2)
  clear X1
  have X2_8 := Lib.hid (row_below X2.out a2)
  clear X2
  have KT_8 := Lib.hid (KT_7.out.below a2 KT_7.out.lt)
  clear KT_7
  have KO_8 := Lib.hid (KO_7.out.below a2 KO_7.out.lt)
  clear KO_7
  have B_8 := Lib.hid (B_7.out.trans (a2.mono B_7.out.size))
  clear B_7
  clear a2
  generalize (w7.alloc (.cells #[.slice xa 0 xc, .slice ya 0 yc] 24)) = w8 at V_8 U_8 V'_8 U'_8 X1_8 X2_8 KT_8 KO_8 KX_07 B_8 ⊢
  refine (ahead_ex a b _ _ s ⟨#[]⟩ false _ V_8.out U_8.out ZA.out ZB.out HS.out HR.out).mono ?_
  rintro e w9 ⟨rfl, b9⟩
  have V_9 := Lib.hid (V_8.out.below b9)
  clear V_8
  have U_9 := Lib.hid (U_8.out.below b9)
  clear U_8
  have V'_9 := Lib.hid (V'_8.out.below b9)
  clear V'_8
  have U'_9 := Lib.hid (U'_8.out.below b9)
  clear U'_8
  have X1_9 := Lib.hid (row_below X1_8.out b9)
  clear X1_8
  have X2_9 := Lib.hid (row_below X2_8.out b9)
  clear X2_8
  have KT_9 := Lib.hid (KT_8.out.below b9 KT_8.out.lt)
  clear KT_8
  have KO_9 := Lib.hid (KO_8.out.below b9 KO_8.out.lt)
  clear KO_8
  have KX_9 := Lib.hid (KX_07.out.below b9 KX_07.out.lt)
  clear KX_07
  have B_9 := Lib.hid (B_8.out.trans (b9.mono B_8.out.size))
  clear B_8
  clear b9
  have lT_9 : w.heap.size < w9.heap.size := KT_9.out.lt
  have cT_0_9 : w9.cell? ⟨w.heap.size, 0, none⟩ = some (.slice va a.length vc) := KT_9.out.cell 0
  have cT_1_9 : w9.cell? ⟨w.heap.size, 1, none⟩ = some (.slice ua b.length uc) := KT_9.out.cell 1
  go_wp2_with fail
  clear lT_9 cT_0_9 cT_1_9
  refine (of_any _ _ _ ⟨_, _, _, rfl⟩ ⟨_, _, _, rfl⟩).mono ?_
  rintro e w10 ⟨rfl, b10⟩
  have V_10 := Lib.hid (V_9.out.below b10)
  clear V_9
  have U_10 := Lib.hid (U_9.out.below b10)
  clear U_9
  have V'_10 := Lib.hid (V'_9.out.below b10)
  clear V'_9
  have U'_10 := Lib.hid (U'_9.out.below b10)
  clear U'_9
  have X1_10 := Lib.hid (row_below X1_9.out b10)
  clear X1_9
  have X2_10 := Lib.hid (row_below X2_9.out b10)
  clear X2_9
  have KT_10 := Lib.hid (KT_9.out.below b10 KT_9.out.lt)
  clear KT_9
  have KO_10 := Lib.hid (KO_9.out.below b10 KO_9.out.lt)
  clear KO_9
  have KX_10 := Lib.hid (KX_9.out.below b10 KX_9.out.lt)
  clear KX_9
  have B_10 := Lib.hid (B_9.out.trans (b10.mono B_9.out.size))
  clear B_9
  clear b10
  go_wp2_with fail
  refine (rahead_ex a b _ _ s ⟨#[]⟩ false _ V_10.out U_10.out ZA.out ZB.out HC.out HC'.out HR.out).mono ?_
  rintro e w11 ⟨rfl, b11⟩
  have V_11 := Lib.hid (V_10.out.below b11)
  clear V_10
  have U_11 := Lib.hid (U_10.out.below b11)
  clear U_10
  have V'_11 := Lib.hid (V'_10.out.below b11)
  clear V'_10
  have U'_11 := Lib.hid (U'_10.out.below b11)
  clear U'_10
  have X1_11 := Lib.hid (row_below X1_10.out b11)
  clear X1_10
  have X2_11 := Lib.hid (row_below X2_10.out b11)
  clear X2_10
  have KT_11 := Lib.hid (KT_10.out.below b11 KT_10.out.lt)
  clear KT_10
  have KO_11 := Lib.hid (KO_10.out.below b11 KO_10.out.lt)
  clear KO_10
  have KX_11 := Lib.hid (KX_10.out.below b11 KX_10.out.lt)
  clear KX_10
  have B_11 := Lib.hid (B_10.out.trans (b11.mono B_10.out.size))
  clear B_10
  clear b11
  have lT_11 : w.heap.size < w11.heap.size := KT_11.out.lt
  have cT_0_11 : w11.cell? ⟨w.heap.size, 0, none⟩ = some (.slice va a.length vc) := KT_11.out.cell 0
  have cT_1_11 : w11.cell? ⟨w.heap.size, 1, none⟩ = some (.slice ua b.length uc) := KT_11.out.cell 1
  go_wp2_with fail
  clear lT_11 cT_0_11 cT_1_11
  refine (back_ex a b _ _ s ⟨#[]⟩ false _ V_11.out U_11.out ZA.out ZB.out HS.out HR2.out).mono ?_
  rintro e w12 ⟨rfl, b12⟩
  have V_12 := Lib.hid (V_11.out.below b12)
  clear V_11
  have U_12 := Lib.hid (U_11.out.below b12)
  clear U_11
  have V'_12 := Lib.hid (V'_11.out.below b12)
  clear V'_11
  have U'_12 := Lib.hid (U'_11.out.below b12)
  clear U'_11
  have X1_12 := Lib.hid (row_below X1_11.out b12)
  clear X1_11
  have X2_12 := Lib.hid (row_below X2_11.out b12)
  clear X2_11
  have KT_12 := Lib.hid (KT_11.out.below b12 KT_11.out.lt)
  clear KT_11
  have KO_12 := Lib.hid (KO_11.out.below b12 KO_11.out.lt)
  clear KO_11
  have KX_12 := Lib.hid (KX_11.out.below b12 KX_11.out.lt)
  clear KX_11
  have B_12 := Lib.hid (B_11.out.trans (b12.mono B_11.out.size))
  clear B_11
  clear b12
  have lT_12 : w.heap.size < w12.heap.size := KT_12.out.lt
  have cT_0_12 : w12.cell? ⟨w.heap.size, 0, none⟩ = some (.slice va a.length vc) := KT_12.out.cell 0
  have cT_1_12 : w12.cell? ⟨w.heap.size, 1, none⟩ = some (.slice ua b.length uc) := KT_12.out.cell 1
  go_wp2_with fail
  clear lT_12 cT_0_12 cT_1_12
  refine (of_any _ _ _ ⟨_, _, _, rfl⟩ ⟨_, _, _, rfl⟩).mono ?_
  rintro e w13 ⟨rfl, b13⟩
  have V_13 := Lib.hid (V_12.out.below b13)
  clear V_12
  have U_13 := Lib.hid (U_12.out.below b13)
  clear U_12
  have V'_13 := Lib.hid (V'_12.out.below b13)
  clear V'_12
  have U'_13 := Lib.hid (U'_12.out.below b13)
  clear U'_12
  have X1_13 := Lib.hid (row_below X1_12.out b13)
  clear X1_12
  have X2_13 := Lib.hid (row_below X2_12.out b13)
  clear X2_12
  have KT_13 := Lib.hid (KT_12.out.below b13 KT_12.out.lt)
  clear KT_12
  have KO_13 := Lib.hid (KO_12.out.below b13 KO_12.out.lt)
  clear KO_12
  have KX_13 := Lib.hid (KX_12.out.below b13 KX_12.out.lt)
  clear KX_12
  have B_13 := Lib.hid (B_12.out.trans (b13.mono B_12.out.size))
  clear B_12
  clear b13
  go_wp2_with fail
  refine (rinv_no a b _ _ _ V_13.out U_13.out ZA.out ZB.out HC.out HC'.out H0.out).mono ?_
  rintro e w14 ⟨rfl, b14⟩
  have V_14 := Lib.hid (V_13.out.below b14)
  clear V_13
  have U_14 := Lib.hid (U_13.out.below b14)
  clear U_13
  have V'_14 := Lib.hid (V'_13.out.below b14)
  clear V'_13
  have U'_14 := Lib.hid (U'_13.out.below b14)
  clear U'_13
  have X1_14 := Lib.hid (row_below X1_13.out b14)
  clear X1_13
  have X2_14 := Lib.hid (row_below X2_13.out b14)
  clear X2_13
  have KT_14 := Lib.hid (KT_13.out.below b14 KT_13.out.lt)
  clear KT_13
  have KO_14 := Lib.hid (KO_13.out.below b14 KO_13.out.lt)
  clear KO_13
  have KX_14 := Lib.hid (KX_13.out.below b14 KX_13.out.lt)
  clear KX_13
  have B_14 := Lib.hid (B_13.out.trans (b14.mono B_13.out.size))
  clear B_13
  clear b14
  go_wp2_with fail
  refine (rahead_ex [] [] _ _ s ⟨#[]⟩ false _ Lst.nil Lst.nil (by simp) (by simp) capfine_nil capfine_nil (aheadF_nil s)).mono ?_
  rintro e w15 ⟨rfl, b15⟩
  have V_15 := Lib.hid (V_14.out.below b15)
  clear V_14
  have U_15 := Lib.hid (U_14.out.below b15)
  clear U_14
  have V'_15 := Lib.hid (V'_14.out.below b15)
  clear V'_14
  have U'_15 := Lib.hid (U'_14.out.below b15)
  clear U'_14
  have X1_15 := Lib.hid (row_below X1_14.out b15)
  clear X1_14
  have X2_15 := Lib.hid (row_below X2_14.out b15)
  clear X2_14
  have KT_15 := Lib.hid (KT_14.out.below b15 KT_14.out.lt)
  clear KT_14
  have KO_15 := Lib.hid (KO_14.out.below b15 KO_14.out.lt)
  clear KO_14
  have KX_15 := Lib.hid (KX_14.out.below b15 KX_14.out.lt)
  clear KX_14
  have B_15 := Lib.hid (B_14.out.trans (b15.mono B_14.out.size))
  clear B_14
  clear b15
  have lT_15 : w.heap.size < w15.heap.size := KT_15.out.lt
  have cT_0_15 : w15.cell? ⟨w.heap.size, 0, none⟩ = some (.slice va a.length vc) := KT_15.out.cell 0
  have cT_1_15 : w15.cell? ⟨w.heap.size, 1, none⟩ = some (.slice ua b.length uc) := KT_15.out.cell 1
  go_wp2_with fail
  clear lT_15 cT_0_15 cT_1_15
  have hd16 : Below w15.heap.size w15 w15.drew := (Below.refl _ _).drew
  have HS16 : Hid (∀ X : World, Below w15.heap.size w15 X → X.cell? ⟨w.heap.size, 0, none⟩ = some (.slice va a.length vc) ∧ X.cell? ⟨w.heap.size, 1, none⟩ = some (.slice ua b.length uc) ∧ X.cell? ⟨w.heap.size + 1, 0, none⟩ = some (.slice va' a'.length vc') ∧ X.cell? ⟨w.heap.size + 1, 1, none⟩ = some (.slice ua' b'.length uc')) := Lib.hid fun X h => ⟨(h.cell (p := ⟨w.heap.size, 0, none⟩) KT_15.out.lt).trans (KT_15.out.cell 0), (h.cell (p := ⟨w.heap.size, 1, none⟩) KT_15.out.lt).trans (KT_15.out.cell 1), (h.cell (p := ⟨w.heap.size + 1, 0, none⟩) KO_15.out.lt).trans (KO_15.out.cell 0), (h.cell (p := ⟨w.heap.size + 1, 1, none⟩) KO_15.out.lt).trans (KO_15.out.cell 1)⟩
  obtain ⟨x16_0, x16_1, x16_2, x16_3⟩ := HS16.out _ hd16
  go_region_held3 (fun X => X.cell? ⟨w.heap.size, 0, none⟩ = some (.slice va a.length vc) ∧ X.cell? ⟨w.heap.size, 1, none⟩ = some (.slice ua b.length uc) ∧ X.cell? ⟨w.heap.size + 1, 0, none⟩ = some (.slice va' a'.length vc') ∧ X.cell? ⟨w.heap.size + 1, 1, none⟩ = some (.slice ua' b'.length uc') ∧ Below w15.heap.size w15 X) (go_keep)
    (first | (go_at_call 17; (with_reducible refine (of_any _ _ _ ⟨_, _, _, rfl⟩ ⟨_, _, _, rfl⟩).mono ?_); rintro e w16 ⟨rfl, hb⟩; have rB16 := chain (a := w15) hb (by assumption); obtain ⟨x16_0, x16_1, x16_2, x16_3⟩ := HS16.out _ rB16; clear hb) | (go_at_call 23; (with_reducible refine (rsame_ex a b a' b' _ _ _ _ sm _ (by omega) (by omega) (by omega) (by omega) (V_15.out.below (by assumption)) (U_15.out.below (by assumption)) (V'_15.out.below (by assumption)) (U'_15.out.below (by assumption)) HSM.out).mono ?_); rintro e w16 ⟨rfl, hb⟩; have rB16 := chain (a := w15) hb (by assumption); obtain ⟨x16_0, x16_1, x16_2, x16_3⟩ := HS16.out _ rB16; clear hb))
  have b16 : Below w15.heap.size w15 w16 := by assumption
  clear HS16
  have V_16 := Lib.hid (V_15.out.below b16)
  clear V_15
  have U_16 := Lib.hid (U_15.out.below b16)
  clear U_15
  have V'_16 := Lib.hid (V'_15.out.below b16)
  clear V'_15
  have U'_16 := Lib.hid (U'_15.out.below b16)
  clear U'_15
  have X1_16 := Lib.hid (row_below X1_15.out b16)
  clear X1_15
  have X2_16 := Lib.hid (row_below X2_15.out b16)
  clear X2_15
  have KT_16 := Lib.hid (KT_15.out.below b16 KT_15.out.lt)
  clear KT_15
  have KO_16 := Lib.hid (KO_15.out.below b16 KO_15.out.lt)
  clear KO_15
  have KX_16 := Lib.hid (KX_15.out.below b16 KX_15.out.lt)
  clear KX_15
  have B_16 := Lib.hid (B_15.out.trans (b16.mono B_15.out.size))
  clear B_15
  go_wp2_with fail
  have hd17 : Below w16.heap.size w16 w16.drew := (Below.refl _ _).drew
  have HS17 : Hid (∀ X : World, Below w16.heap.size w16 X → X.cell? ⟨w.heap.size, 0, none⟩ = some (.slice va a.length vc) ∧ X.cell? ⟨w.heap.size, 1, none⟩ = some (.slice ua b.length uc) ∧ X.cell? ⟨w7.heap.size, 0, none⟩ = some (.slice xa 0 xc) ∧ X.cell? ⟨w7.heap.size, 1, none⟩ = some (.slice ya 0 yc)) := Lib.hid fun X h => ⟨(h.cell (p := ⟨w.heap.size, 0, none⟩) KT_16.out.lt).trans (KT_16.out.cell 0), (h.cell (p := ⟨w.heap.size, 1, none⟩) KT_16.out.lt).trans (KT_16.out.cell 1), (h.cell (p := ⟨w7.heap.size, 0, none⟩) KX_16.out.lt).trans (KX_16.out.cell 0), (h.cell (p := ⟨w7.heap.size, 1, none⟩) KX_16.out.lt).trans (KX_16.out.cell 1)⟩
  obtain ⟨x17_0, x17_1, x17_2, x17_3⟩ := HS17.out _ hd17
  go_region_held3 (fun X => X.cell? ⟨w.heap.size, 0, none⟩ = some (.slice va a.length vc) ∧ X.cell? ⟨w.heap.size, 1, none⟩ = some (.slice ua b.length uc) ∧ X.cell? ⟨w7.heap.size, 0, none⟩ = some (.slice xa 0 xc) ∧ X.cell? ⟨w7.heap.size, 1, none⟩ = some (.slice ya 0 yc) ∧ Below w16.heap.size w16 X) (go_keep)
    (first | (go_at_call 17; (with_reducible refine (of_any _ _ _ ⟨_, _, _, rfl⟩ ⟨_, _, _, rfl⟩).mono ?_); rintro e w17 ⟨rfl, hb⟩; have rB17 := chain (a := w16) hb (by assumption); obtain ⟨x17_0, x17_1, x17_2, x17_3⟩ := HS17.out _ rB17; clear hb) | (go_at_call 23; (with_reducible refine (rsame_ex [] [] a b _ _ _ _ wh _ (by first | omega | simp) (by first | omega | simp) (by omega) (by omega) (Lst.of_row (ec := stc) (l := []) (row_below X1_16.out (by assumption))) (Lst.of_row (ec := stc) (l := []) (row_below X2_16.out (by assumption))) (V_16.out.below (by assumption)) (U_16.out.below (by assumption)) HWH.out).mono ?_); rintro e w17 ⟨rfl, hb⟩; have rB17 := chain (a := w16) hb (by assumption); obtain ⟨x17_0, x17_1, x17_2, x17_3⟩ := HS17.out _ rB17; clear hb))
  have b17 : Below w16.heap.size w16 w17 := by assumption
  clear HS17
  have V_17 := Lib.hid (V_16.out.below b17)
  clear V_16
  have U_17 := Lib.hid (U_16.out.below b17)
  clear U_16
  have V'_17 := Lib.hid (V'_16.out.below b17)
  clear V'_16
  have U'_17 := Lib.hid (U'_16.out.below b17)
  clear U'_16
  have X1_17 := Lib.hid (row_below X1_16.out b17)
  clear X1_16
  have X2_17 := Lib.hid (row_below X2_16.out b17)
  clear X2_16
  have KT_17 := Lib.hid (KT_16.out.below b17 KT_16.out.lt)
  clear KT_16
  have KO_17 := Lib.hid (KO_16.out.below b17 KO_16.out.lt)
  clear KO_16
  have KX_17 := Lib.hid (KX_16.out.below b17 KX_16.out.lt)
  clear KX_16
  have B_17 := Lib.hid (B_16.out.trans (b17.mono B_16.out.size))
  clear B_16
  have lT_17 : w.heap.size < w17.heap.size := KT_17.out.lt
  have cT_0_17 : w17.cell? ⟨w.heap.size, 0, none⟩ = some (.slice va a.length vc) := KT_17.out.cell 0
  have cT_1_17 : w17.cell? ⟨w.heap.size, 1, none⟩ = some (.slice ua b.length uc) := KT_17.out.cell 1
  have lO_17 : w.heap.size + 1 < w17.heap.size := KO_17.out.lt
  have cO_0_17 : w17.cell? ⟨w.heap.size + 1, 0, none⟩ = some (.slice va' a'.length vc') := KO_17.out.cell 0
  have cO_1_17 : w17.cell? ⟨w.heap.size + 1, 1, none⟩ = some (.slice ua' b'.length uc') := KO_17.out.cell 1
  have lX_17 : w7.heap.size < w17.heap.size := KX_17.out.lt
  have cX_0_17 : w17.cell? ⟨w7.heap.size, 0, none⟩ = some (.slice xa 0 xc) := KX_17.out.cell 0
  have cX_1_17 : w17.cell? ⟨w7.heap.size, 1, none⟩ = some (.slice ya 0 yc) := KX_17.out.cell 1
  go_wp2_with fail
  clear lT_17 cT_0_17 cT_1_17 lO_17 cO_0_17 cO_1_17 lX_17 cX_0_17 cX_1_17
  refine (check_ex a b _ _ q _ V_17.out U_17.out ZA.out ZB.out HQ.out).mono ?_
  rintro e w18 ⟨rfl, b18⟩
  have V_18 := Lib.hid (V_17.out.below b18)
  clear V_17
  have U_18 := Lib.hid (U_17.out.below b18)
  clear U_17
  have V'_18 := Lib.hid (V'_17.out.below b18)
  clear V'_17
  have U'_18 := Lib.hid (U'_17.out.below b18)
  clear U'_17
  have X1_18 := Lib.hid (row_below X1_17.out b18)
  clear X1_17
  have X2_18 := Lib.hid (row_below X2_17.out b18)
  clear X2_17
  have KT_18 := Lib.hid (KT_17.out.below b18 KT_17.out.lt)
  clear KT_17
  have KO_18 := Lib.hid (KO_17.out.below b18 KO_17.out.lt)
  clear KO_17
  have KX_18 := Lib.hid (KX_17.out.below b18 KX_17.out.lt)
  clear KX_17
  have B_18 := Lib.hid (B_17.out.trans (b18.mono B_17.out.size))
  clear B_17
  clear b18
  have lT_18 : w.heap.size < w18.heap.size := KT_18.out.lt
  have cT_0_18 : w18.cell? ⟨w.heap.size, 0, none⟩ = some (.slice va a.length vc) := KT_18.out.cell 0
  have cT_1_18 : w18.cell? ⟨w.heap.size, 1, none⟩ = some (.slice ua b.length uc) := KT_18.out.cell 1
  have lO_18 : w.heap.size + 1 < w18.heap.size := KO_18.out.lt
  have cO_0_18 : w18.cell? ⟨w.heap.size + 1, 0, none⟩ = some (.slice va' a'.length vc') := KO_18.out.cell 0
  have cO_1_18 : w18.cell? ⟨w.heap.size + 1, 1, none⟩ = some (.slice ua' b'.length uc') := KO_18.out.cell 1
  have lX_18 : w7.heap.size < w18.heap.size := KX_18.out.lt
  have cX_0_18 : w18.cell? ⟨w7.heap.size, 0, none⟩ = some (.slice xa 0 xc) := KX_18.out.cell 0
  have cX_1_18 : w18.cell? ⟨w7.heap.size, 1, none⟩ = some (.slice ya 0 yc) := KX_18.out.cell 1
  go_wp2_with fail
  clear lT_18 cT_0_18 cT_1_18 lO_18 cO_0_18 cO_1_18 lX_18 cX_0_18 cX_1_18
  refine (same_ex a b a' b' _ _ _ _ sm _ (by omega) (by omega) (by omega) (by omega) V_18.out U_18.out V'_18.out U'_18.out HSM.out).mono ?_
  rintro e w19 ⟨rfl, b19⟩
  have V_19 := Lib.hid (V_18.out.below b19)
  clear V_18
  have U_19 := Lib.hid (U_18.out.below b19)
  clear U_18
  have V'_19 := Lib.hid (V'_18.out.below b19)
  clear V'_18
  have U'_19 := Lib.hid (U'_18.out.below b19)
  clear U'_18
  have X1_19 := Lib.hid (row_below X1_18.out b19)
  clear X1_18
  have X2_19 := Lib.hid (row_below X2_18.out b19)
  clear X2_18
  have KT_19 := Lib.hid (KT_18.out.below b19 KT_18.out.lt)
  clear KT_18
  have KO_19 := Lib.hid (KO_18.out.below b19 KO_18.out.lt)
  clear KO_18
  have KX_19 := Lib.hid (KX_18.out.below b19 KX_18.out.lt)
  clear KX_18
  have B_19 := Lib.hid (B_18.out.trans (b19.mono B_18.out.size))
  clear B_18
  clear b19
  go_wp2
  go_ret
  exact ⟨rfl, B_19.out⟩

theorem law_tells (a b a' b' : List ByteArray) (v u v' u' : Value) (s : ByteArray) (w : World) (hv : Lst stc w v a) (hu : Lst stc w u b) (hv' : Lst stc w v' a') (hu' : Lst stc w u' b') (hc : CapFine v) (hc' : CapFine u) (hn : NilFine v) (hn' : NilFine u) :
    Calls Try.prog 3 #[.agg #[v, u], .agg #[v', u'], .string s] w fun e w' => e = .returned (.bool true) ∧ Below w.heap.size w w' := by
  by_cases h1 : (fewB a 210 && fewB b 210) = true
  · by_cases h2 : (fewB a' 210 && fewB b' 210) = true
    · by_cases h3 : (60 : Int) < (s.size : Int)
      · exact tells_no3 a b a' b' v u v' u' s w hv hu hv' hu' h1 h2 h3
      · by_cases h0 : checkF a b = 0
        · exact tells_ok a b a' b' v u v' u' s w hv hu hv' hu' hc hc' hn hn' h1 h2 h3 h0
        · exact tells_bad a b a' b' v u v' u' s w hv hu hv' hu' hc hc' hn hn' h1 h2 h3 h0
    · exact tells_no2 a b a' b' v u v' u' s w hv hu hv' hu' h1 (by simpa using h2)
  · exact tells_no1 a b a' b' v u v' u' s w hv hu hv' hu' (by simpa using h1)
end Go.Proofs.Ytadodccciejghaa
