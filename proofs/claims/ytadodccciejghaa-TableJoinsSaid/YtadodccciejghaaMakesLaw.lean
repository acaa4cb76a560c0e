/- TableMakes: tables that are made of others. -/
import Derived.Test.YtadodccciejghaaTellsLaw
import Derived.Test.YtadodccciejghaaRJoin
namespace Go.Proofs.Ytadodccciejghaa
open Go.RowKit
attribute [local go_sem] Oper.semAt_some
set_option maxRecDepth 100000
set_option maxHeartbeats 2000000

theorem few30_ex (l : List ByteArray) (v : Value) (q : Bool) (w : World) (ht : Lst stc w v l) (hq : fewB l 30 = q) : Calls Try.prog 26 #[v, .int .i64 30] w fun e w' => e = .returned (.bool q) ∧ w = w' := by
  subst hq
  exact few_any l v 30 w (by decide) ht
theorem rjoin_ex (a b c d : List ByteArray) (v u v' u' : Value) (p q : List ByteArray) (w : World) (hv : Lst stc w v a) (hu : Lst stc w u b) (hv' : Lst stc w v' c) (hu' : Lst stc w u' d)
    (hz : ∀ x ∈ a, x.size ≤ 60) (hz' : ∀ x ∈ b, x.size ≤ 60) (hz2 : ∀ x ∈ c, x.size ≤ 60) (hz3 : ∀ x ∈ d, x.size ≤ 60) (hc : CapFine v) (hc' : CapFine u) (hc2 : CapFine v') (hc3 : CapFine u') (hp : (joinR a b c d).map (·.1) = p) (hq : (joinR a b c d).map (·.2) = q) :
    Calls Try.prog 29 #[.agg #[v, u], .agg #[v', u']] w fun e w' => ∃ V, e = .returned V ∧ TabR w.heap.size w' V p q ∧ Below w.heap.size w w' := by
  subst hp hq
  exact rjoin_any a b c d v u v' u' w hv hu hv' hu' (max1 hz) (max1 hz') (max1 hz2) (max1 hz3) hc hc' hc2 hc3
theorem rmap_ex (a b l : List ByteArray) (v u t : Value) (m : List ByteArray) (q : Int) (w : World) (hv : Lst stc w v a) (hu : Lst stc w u b) (ht : Lst stc w t l) (hz : ∀ x ∈ a, x.size ≤ 60) (hz' : ∀ x ∈ b, x.size ≤ 60) (hc : CapFine v) (hc' : CapFine u) (hl : l.length ≤ 100000)
    (hm : mapR a b l = m) (hq : mapE a b l = q) :
    Calls Try.prog 31 #[.agg #[v, u], t] w fun e w' => ∃ V, e = .returned (.tuple #[V, .int .i64 q]) ∧ w'.ownsRow w.heap.size 9 1 V m.length (m.flatMap stc) ∧ Below w.heap.size w w' := by
  subst hm hq
  exact rmap_any a b l v u t w hv hu ht (max1 hz) (max1 hz') hc hc' hl
theorem joinR_len (a b c d : List ByteArray) : (joinR a b c d).length ≤ a.length := by
  unfold joinR
  split
  · exact joinL_len c d a b
  · exact Nat.zero_le _
theorem mapR_len (a b l : List ByteArray) : (mapR a b l).length ≤ l.length := by
  unfold mapR
  split
  · cases h : mapL a b l with
    | none => simp
    | some m => simp [mapL_len a b l m h]
  · simp
theorem texts_ex (l m : List ByteArray) (v u : Value) (q : Bool) (w : World) (hl : l.length ≤ 210) (hm : m.length ≤ 210) (ht : Lst stc w v l) (hu : Lst stc w u m) (hq : eqL stEq l m = q) :
    Calls Try.prog 32 #[v, u] w fun e w' => e = .returned (.bool q) ∧ Below w.heap.size w w' := by
  subst hq
  exact texts_any l m v u w (by omega) (by omega) ht hu

theorem makes_no1 (a b a' b' l : List ByteArray) (v u v' u' t : Value) (w : World) (hv : Lst stc w v a) (hu : Lst stc w u b) (hv' : Lst stc w v' a') (hu' : Lst stc w u' b') (ht : Lst stc w t l) (h1 : (fewB a 210 && fewB b 210) = false) :
    Calls Try.prog 4 #[.agg #[v, u], .agg #[v', u'], t] w fun e w' => e = .returned (.bool true) ∧ Below w.heap.size w w' := by
  have H1 := Lib.hid h1
  clear h1
  have HV := Lib.hid hv
  have HU := Lib.hid hu
  have HV' := Lib.hid hv'
  have HU' := Lib.hid hu'
  have HL := Lib.hid ht
  obtain ⟨va, vc, rfl⟩ := hv.slice
  obtain ⟨ua, uc, rfl⟩ := hu.slice
  obtain ⟨va', vc', rfl⟩ := hv'.slice
  obtain ⟨ua', uc', rfl⟩ := hu'.slice
  obtain ⟨ta, tc, rfl⟩ := ht.slice
  clear hv hu hv' hu' ht
  go_enter Try.func4, Try.ntmps4
  go_wp2_with fail
  have a1 : Below w.heap.size w ((w.alloc (.cells #[.slice va a.length vc, .slice ua b.length uc] 24)).alloc (.cells #[.slice va' a'.length vc', .slice ua' b'.length uc'] 24)) := (((Below.refl w.heap.size w).alloc (by first | exact Nat.le_refl _ | (simp only [World.size_alloc]; omega)) (.cells #[.slice va a.length vc, .slice ua b.length uc] 24)).alloc (by first | exact Nat.le_refl _ | (simp only [World.size_alloc]; omega)) (.cells #[.slice va' a'.length vc', .slice ua' b'.length uc'] 24))
  have T_new0 := ((Blk.new w #[.slice va a.length vc, .slice ua b.length uc] 24).alloc (.cells #[.slice va' a'.length vc', .slice ua' b'.length uc'] 24))
  have KT_00 := Lib.hid T_new0
  clear T_new0
  have O_new0 := (Blk.new (w.alloc (.cells #[.slice va a.length vc, .slice ua b.length uc] 24)) #[.slice va' a'.length vc', .slice ua' b'.length uc'] 24)
  rw [World.size_alloc] at O_new0
  have KO_00 := Lib.hid O_new0
  clear O_new0
  have V_1 := Lib.hid (HV.out.below a1)
  clear HV
  have U_1 := Lib.hid (HU.out.below a1)
  clear HU
  have V'_1 := Lib.hid (HV'.out.below a1)
  clear HV'
  have U'_1 := Lib.hid (HU'.out.below a1)
  clear HU'
  have LL_1 := Lib.hid (HL.out.below a1)
  clear HL
  have B_1 := Lib.hid a1
  clear a1
  generalize ((w.alloc (.cells #[.slice va a.length vc, .slice ua b.length uc] 24)).alloc (.cells #[.slice va' a'.length vc', .slice ua' b'.length uc'] 24)) = w1 at V_1 U_1 V'_1 U'_1 LL_1 KT_00 KO_00 B_1 ⊢
  refine (works_any _).mono ?_
  rintro e w2 ⟨rfl, b2⟩
  have V_2 := Lib.hid (V_1.out.below b2)
  clear V_1
  have U_2 := Lib.hid (U_1.out.below b2)
  clear U_1
  have V'_2 := Lib.hid (V'_1.out.below b2)
  clear V'_1
  have U'_2 := Lib.hid (U'_1.out.below b2)
  clear U'_1
  have LL_2 := Lib.hid (LL_1.out.below b2)
  clear LL_1
  have KT_2 := Lib.hid (KT_00.out.below b2 KT_00.out.lt)
  clear KT_00
  have KO_2 := Lib.hid (KO_00.out.below b2 KO_00.out.lt)
  clear KO_00
  have B_2 := Lib.hid (B_1.out.trans (b2.mono B_1.out.size))
  clear B_1
  clear b2
  have lT_2 : w.heap.size < w2.heap.size := KT_2.out.lt
  have cT_0_2 : w2.cell? ⟨w.heap.size, 0, none⟩ = some (.slice va a.length vc) := KT_2.out.cell 0
  have cT_1_2 : w2.cell? ⟨w.heap.size, 1, none⟩ = some (.slice ua b.length uc) := KT_2.out.cell 1
  have lO_2 : w.heap.size + 1 < w2.heap.size := KO_2.out.lt
  have cO_0_2 : w2.cell? ⟨w.heap.size + 1, 0, none⟩ = some (.slice va' a'.length vc') := KO_2.out.cell 0
  have cO_1_2 : w2.cell? ⟨w.heap.size + 1, 1, none⟩ = some (.slice ua' b'.length uc') := KO_2.out.cell 1
  go_wp2_with fail
  clear lT_2 cT_0_2 cT_1_2 lO_2 cO_0_2 cO_1_2
  refine (few_ex a b _ _ false _ V_2.out U_2.out H1.out).mono ?_
  rintro e w3 ⟨rfl, b3⟩
  have V_3 := Lib.hid (V_2.out.below b3)
  clear V_2
  have U_3 := Lib.hid (U_2.out.below b3)
  clear U_2
  have V'_3 := Lib.hid (V'_2.out.below b3)
  clear V'_2
  have U'_3 := Lib.hid (U'_2.out.below b3)
  clear U'_2
  have LL_3 := Lib.hid (LL_2.out.below b3)
  clear LL_2
  have KT_3 := Lib.hid (KT_2.out.below b3 KT_2.out.lt)
  clear KT_2
  have KO_3 := Lib.hid (KO_2.out.below b3 KO_2.out.lt)
  clear KO_2
  have B_3 := Lib.hid (B_2.out.trans (b3.mono B_2.out.size))
  clear B_2
  clear b3
  have lT_3 : w.heap.size < w3.heap.size := KT_3.out.lt
  have cT_0_3 : w3.cell? ⟨w.heap.size, 0, none⟩ = some (.slice va a.length vc) := KT_3.out.cell 0
  have cT_1_3 : w3.cell? ⟨w.heap.size, 1, none⟩ = some (.slice ua b.length uc) := KT_3.out.cell 1
  have lO_3 : w.heap.size + 1 < w3.heap.size := KO_3.out.lt
  have cO_0_3 : w3.cell? ⟨w.heap.size + 1, 0, none⟩ = some (.slice va' a'.length vc') := KO_3.out.cell 0
  have cO_1_3 : w3.cell? ⟨w.heap.size + 1, 1, none⟩ = some (.slice ua' b'.length uc') := KO_3.out.cell 1
  go_wp2
  go_ret
  exact ⟨rfl, B_3.out⟩

theorem makes_no2 (a b a' b' l : List ByteArray) (v u v' u' t : Value) (w : World) (hv : Lst stc w v a) (hu : Lst stc w u b) (hv' : Lst stc w v' a') (hu' : Lst stc w u' b') (ht : Lst stc w t l) (h1 : (fewB a 210 && fewB b 210) = true) (h2 : (fewB a' 210 && fewB b' 210) = false) :
    Calls Try.prog 4 #[.agg #[v, u], .agg #[v', u'], t] w fun e w' => e = .returned (.bool true) ∧ Below w.heap.size w w' := by
  have H1 := Lib.hid h1
  have H2 := Lib.hid h2
  clear h1 h2
  have HV := Lib.hid hv
  have HU := Lib.hid hu
  have HV' := Lib.hid hv'
  have HU' := Lib.hid hu'
  have HL := Lib.hid ht
  obtain ⟨va, vc, rfl⟩ := hv.slice
  obtain ⟨ua, uc, rfl⟩ := hu.slice
  obtain ⟨va', vc', rfl⟩ := hv'.slice
  obtain ⟨ua', uc', rfl⟩ := hu'.slice
  obtain ⟨ta, tc, rfl⟩ := ht.slice
  clear hv hu hv' hu' ht
  go_enter Try.func4, Try.ntmps4
  go_wp2_with fail
  have a1 : Below w.heap.size w ((w.alloc (.cells #[.slice va a.length vc, .slice ua b.length uc] 24)).alloc (.cells #[.slice va' a'.length vc', .slice ua' b'.length uc'] 24)) := (((Below.refl w.heap.size w).alloc (by first | exact Nat.le_refl _ | (simp only [World.size_alloc]; omega)) (.cells #[.slice va a.length vc, .slice ua b.length uc] 24)).alloc (by first | exact Nat.le_refl _ | (simp only [World.size_alloc]; omega)) (.cells #[.slice va' a'.length vc', .slice ua' b'.length uc'] 24))
  have T_new0 := ((Blk.new w #[.slice va a.length vc, .slice ua b.length uc] 24).alloc (.cells #[.slice va' a'.length vc', .slice ua' b'.length uc'] 24))
  have KT_00 := Lib.hid T_new0
  clear T_new0
  have O_new0 := (Blk.new (w.alloc (.cells #[.slice va a.length vc, .slice ua b.length uc] 24)) #[.slice va' a'.length vc', .slice ua' b'.length uc'] 24)
  rw [World.size_alloc] at O_new0
  have KO_00 := Lib.hid O_new0
  clear O_new0
  have V_1 := Lib.hid (HV.out.below a1)
  clear HV
  have U_1 := Lib.hid (HU.out.below a1)
  clear HU
  have V'_1 := Lib.hid (HV'.out.below a1)
  clear HV'
  have U'_1 := Lib.hid (HU'.out.below a1)
  clear HU'
  have LL_1 := Lib.hid (HL.out.below a1)
  clear HL
  have B_1 := Lib.hid a1
  clear a1
  generalize ((w.alloc (.cells #[.slice va a.length vc, .slice ua b.length uc] 24)).alloc (.cells #[.slice va' a'.length vc', .slice ua' b'.length uc'] 24)) = w1 at V_1 U_1 V'_1 U'_1 LL_1 KT_00 KO_00 B_1 ⊢
  refine (works_any _).mono ?_
  rintro e w2 ⟨rfl, b2⟩
  have V_2 := Lib.hid (V_1.out.below b2)
  clear V_1
  have U_2 := Lib.hid (U_1.out.below b2)
  clear U_1
  have V'_2 := Lib.hid (V'_1.out.below b2)
  clear V'_1
  have U'_2 := Lib.hid (U'_1.out.below b2)
  clear U'_1
  have LL_2 := Lib.hid (LL_1.out.below b2)
  clear LL_1
  have KT_2 := Lib.hid (KT_00.out.below b2 KT_00.out.lt)
  clear KT_00
  have KO_2 := Lib.hid (KO_00.out.below b2 KO_00.out.lt)
  clear KO_00
  have B_2 := Lib.hid (B_1.out.trans (b2.mono B_1.out.size))
  clear B_1
  clear b2
  have lT_2 : w.heap.size < w2.heap.size := KT_2.out.lt
  have cT_0_2 : w2.cell? ⟨w.heap.size, 0, none⟩ = some (.slice va a.length vc) := KT_2.out.cell 0
  have cT_1_2 : w2.cell? ⟨w.heap.size, 1, none⟩ = some (.slice ua b.length uc) := KT_2.out.cell 1
  have lO_2 : w.heap.size + 1 < w2.heap.size := KO_2.out.lt
  have cO_0_2 : w2.cell? ⟨w.heap.size + 1, 0, none⟩ = some (.slice va' a'.length vc') := KO_2.out.cell 0
  have cO_1_2 : w2.cell? ⟨w.heap.size + 1, 1, none⟩ = some (.slice ua' b'.length uc') := KO_2.out.cell 1
  go_wp2_with fail
  clear lT_2 cT_0_2 cT_1_2 lO_2 cO_0_2 cO_1_2
  refine (few_ex a b _ _ true _ V_2.out U_2.out H1.out).mono ?_
  rintro e w3 ⟨rfl, b3⟩
  have V_3 := Lib.hid (V_2.out.below b3)
  clear V_2
  have U_3 := Lib.hid (U_2.out.below b3)
  clear U_2
  have V'_3 := Lib.hid (V'_2.out.below b3)
  clear V'_2
  have U'_3 := Lib.hid (U'_2.out.below b3)
  clear U'_2
  have LL_3 := Lib.hid (LL_2.out.below b3)
  clear LL_2
  have KT_3 := Lib.hid (KT_2.out.below b3 KT_2.out.lt)
  clear KT_2
  have KO_3 := Lib.hid (KO_2.out.below b3 KO_2.out.lt)
  clear KO_2
  have B_3 := Lib.hid (B_2.out.trans (b3.mono B_2.out.size))
  clear B_2
  clear b3
  have lT_3 : w.heap.size < w3.heap.size := KT_3.out.lt
  have cT_0_3 : w3.cell? ⟨w.heap.size, 0, none⟩ = some (.slice va a.length vc) := KT_3.out.cell 0
  have cT_1_3 : w3.cell? ⟨w.heap.size, 1, none⟩ = some (.slice ua b.length uc) := KT_3.out.cell 1
  have lO_3 : w.heap.size + 1 < w3.heap.size := KO_3.out.lt
  have cO_0_3 : w3.cell? ⟨w.heap.size + 1, 0, none⟩ = some (.slice va' a'.length vc') := KO_3.out.cell 0
  have cO_1_3 : w3.cell? ⟨w.heap.size + 1, 1, none⟩ = some (.slice ua' b'.length uc') := KO_3.out.cell 1
  go_wp2_with fail
  clear lT_3 cT_0_3 cT_1_3 lO_3 cO_0_3 cO_1_3
  refine (few_ex a' b' _ _ false _ V'_3.out U'_3.out H2.out).mono ?_
  rintro e w4 ⟨rfl, b4⟩
  have V_4 := Lib.hid (V_3.out.below b4)
  clear V_3
  have U_4 := Lib.hid (U_3.out.below b4)
  clear U_3
  have V'_4 := Lib.hid (V'_3.out.below b4)
  clear V'_3
  have U'_4 := Lib.hid (U'_3.out.below b4)
  clear U'_3
  have LL_4 := Lib.hid (LL_3.out.below b4)
  clear LL_3
  have KT_4 := Lib.hid (KT_3.out.below b4 KT_3.out.lt)
  clear KT_3
  have KO_4 := Lib.hid (KO_3.out.below b4 KO_3.out.lt)
  clear KO_3
  have B_4 := Lib.hid (B_3.out.trans (b4.mono B_3.out.size))
  clear B_3
  clear b4
  go_wp2
  go_ret
  exact ⟨rfl, B_4.out⟩

theorem makes_no3 (a b a' b' l : List ByteArray) (v u v' u' t : Value) (w : World) (hv : Lst stc w v a) (hu : Lst stc w u b) (hv' : Lst stc w v' a') (hu' : Lst stc w u' b') (ht : Lst stc w t l) (h1 : (fewB a 210 && fewB b 210) = true) (h2 : (fewB a' 210 && fewB b' 210) = true) (h3 : fewB l 30 = false) :
    Calls Try.prog 4 #[.agg #[v, u], .agg #[v', u'], t] w fun e w' => e = .returned (.bool true) ∧ Below w.heap.size w w' := by
  have H1 := Lib.hid h1
  have H2 := Lib.hid h2
  have H3 := Lib.hid h3
  clear h1 h2 h3
  have HV := Lib.hid hv
  have HU := Lib.hid hu
  have HV' := Lib.hid hv'
  have HU' := Lib.hid hu'
  have HL := Lib.hid ht
  obtain ⟨va, vc, rfl⟩ := hv.slice
  obtain ⟨ua, uc, rfl⟩ := hu.slice
  obtain ⟨va', vc', rfl⟩ := hv'.slice
  obtain ⟨ua', uc', rfl⟩ := hu'.slice
  obtain ⟨ta, tc, rfl⟩ := ht.slice
  clear hv hu hv' hu' ht
  go_enter Try.func4, Try.ntmps4
  go_wp2_with fail
  have a1 : Below w.heap.size w ((w.alloc (.cells #[.slice va a.length vc, .slice ua b.length uc] 24)).alloc (.cells #[.slice va' a'.length vc', .slice ua' b'.length uc'] 24)) := (((Below.refl w.heap.size w).alloc (by first | exact Nat.le_refl _ | (simp only [World.size_alloc]; omega)) (.cells #[.slice va a.length vc, .slice ua b.length uc] 24)).alloc (by first | exact Nat.le_refl _ | (simp only [World.size_alloc]; omega)) (.cells #[.slice va' a'.length vc', .slice ua' b'.length uc'] 24))
  have T_new0 := ((Blk.new w #[.slice va a.length vc, .slice ua b.length uc] 24).alloc (.cells #[.slice va' a'.length vc', .slice ua' b'.length uc'] 24))
  have KT_00 := Lib.hid T_new0
  clear T_new0
  have O_new0 := (Blk.new (w.alloc (.cells #[.slice va a.length vc, .slice ua b.length uc] 24)) #[.slice va' a'.length vc', .slice ua' b'.length uc'] 24)
  rw [World.size_alloc] at O_new0
  have KO_00 := Lib.hid O_new0
  clear O_new0
  have V_1 := Lib.hid (HV.out.below a1)
  clear HV
  have U_1 := Lib.hid (HU.out.below a1)
  clear HU
  have V'_1 := Lib.hid (HV'.out.below a1)
  clear HV'
  have U'_1 := Lib.hid (HU'.out.below a1)
  clear HU'
  have LL_1 := Lib.hid (HL.out.below a1)
  clear HL
  have B_1 := Lib.hid a1
  clear a1
  generalize ((w.alloc (.cells #[.slice va a.length vc, .slice ua b.length uc] 24)).alloc (.cells #[.slice va' a'.length vc', .slice ua' b'.length uc'] 24)) = w1 at V_1 U_1 V'_1 U'_1 LL_1 KT_00 KO_00 B_1 ⊢
  refine (works_any _).mono ?_
  rintro e w2 ⟨rfl, b2⟩
  have V_2 := Lib.hid (V_1.out.below b2)
  clear V_1
  have U_2 := Lib.hid (U_1.out.below b2)
  clear U_1
  have V'_2 := Lib.hid (V'_1.out.below b2)
  clear V'_1
  have U'_2 := Lib.hid (U'_1.out.below b2)
  clear U'_1
  have LL_2 := Lib.hid (LL_1.out.below b2)
  clear LL_1
  have KT_2 := Lib.hid (KT_00.out.below b2 KT_00.out.lt)
  clear KT_00
  have KO_2 := Lib.hid (KO_00.out.below b2 KO_00.out.lt)
  clear KO_00
  have B_2 := Lib.hid (B_1.out.trans (b2.mono B_1.out.size))
  clear B_1
  clear b2
  have lT_2 : w.heap.size < w2.heap.size := KT_2.out.lt
  have cT_0_2 : w2.cell? ⟨w.heap.size, 0, none⟩ = some (.slice va a.length vc) := KT_2.out.cell 0
  have cT_1_2 : w2.cell? ⟨w.heap.size, 1, none⟩ = some (.slice ua b.length uc) := KT_2.out.cell 1
  have lO_2 : w.heap.size + 1 < w2.heap.size := KO_2.out.lt
  have cO_0_2 : w2.cell? ⟨w.heap.size + 1, 0, none⟩ = some (.slice va' a'.length vc') := KO_2.out.cell 0
  have cO_1_2 : w2.cell? ⟨w.heap.size + 1, 1, none⟩ = some (.slice ua' b'.length uc') := KO_2.out.cell 1
  go_wp2_with fail
  clear lT_2 cT_0_2 cT_1_2 lO_2 cO_0_2 cO_1_2
  refine (few_ex a b _ _ true _ V_2.out U_2.out H1.out).mono ?_
  rintro e w3 ⟨rfl, b3⟩
  have V_3 := Lib.hid (V_2.out.below b3)
  clear V_2
  have U_3 := Lib.hid (U_2.out.below b3)
  clear U_2
  have V'_3 := Lib.hid (V'_2.out.below b3)
  clear V'_2
  have U'_3 := Lib.hid (U'_2.out.below b3)
  clear U'_2
  have LL_3 := Lib.hid (LL_2.out.below b3)
  clear LL_2
  have KT_3 := Lib.hid (KT_2.out.below b3 KT_2.out.lt)
  clear KT_2
  have KO_3 := Lib.hid (KO_2.out.below b3 KO_2.out.lt)
  clear KO_2
  have B_3 := Lib.hid (B_2.out.trans (b3.mono B_2.out.size))
  clear B_2
  clear b3
  have lT_3 : w.heap.size < w3.heap.size := KT_3.out.lt
  have cT_0_3 : w3.cell? ⟨w.heap.size, 0, none⟩ = some (.slice va a.length vc) := KT_3.out.cell 0
  have cT_1_3 : w3.cell? ⟨w.heap.size, 1, none⟩ = some (.slice ua b.length uc) := KT_3.out.cell 1
  have lO_3 : w.heap.size + 1 < w3.heap.size := KO_3.out.lt
  have cO_0_3 : w3.cell? ⟨w.heap.size + 1, 0, none⟩ = some (.slice va' a'.length vc') := KO_3.out.cell 0
  have cO_1_3 : w3.cell? ⟨w.heap.size + 1, 1, none⟩ = some (.slice ua' b'.length uc') := KO_3.out.cell 1
  go_wp2_with fail
  clear lT_3 cT_0_3 cT_1_3 lO_3 cO_0_3 cO_1_3
  refine (few_ex a' b' _ _ true _ V'_3.out U'_3.out H2.out).mono ?_
  rintro e w4 ⟨rfl, b4⟩
  have V_4 := Lib.hid (V_3.out.below b4)
  clear V_3
  have U_4 := Lib.hid (U_3.out.below b4)
  clear U_3
  have V'_4 := Lib.hid (V'_3.out.below b4)
  clear V'_3
  have U'_4 := Lib.hid (U'_3.out.below b4)
  clear U'_3
  have LL_4 := Lib.hid (LL_3.out.below b4)
  clear LL_3
  have KT_4 := Lib.hid (KT_3.out.below b4 KT_3.out.lt)
  clear KT_3
  have KO_4 := Lib.hid (KO_3.out.below b4 KO_3.out.lt)
  clear KO_3
  have B_4 := Lib.hid (B_3.out.trans (b4.mono B_3.out.size))
  clear B_3
  clear b4
  go_wp2_with fail
  refine (few30_ex l _ false _ LL_4.out H3.out).mono ?_
  rintro e w' ⟨rfl, rfl⟩
  go_wp2
  go_ret
  exact ⟨rfl, B_4.out⟩

theorem makes_ok (a b a' b' l : List ByteArray) (v u v' u' t : Value) (w : World) (hv : Lst stc w v a) (hu : Lst stc w u b) (hv' : Lst stc w v' a') (hu' : Lst stc w u' b') (ht : Lst stc w t l) (hc : CapFine v) (hc' : CapFine u) (hc2 : CapFine v') (hc3 : CapFine u') (hn : NilFine v) (hn' : NilFine u) (h1 : (fewB a 210 && fewB b 210) = true) (h2 : (fewB a' 210 && fewB b' 210) = true) (h3 : fewB l 30 = true) (h0 : checkF a b = 0) :
    Calls Try.prog 4 #[.agg #[v, u], .agg #[v', u'], t] w fun e w' => e = .returned (.bool true) ∧ Below w.heap.size w w' := by
  have HC := Lib.hid hc
  have HC' := Lib.hid hc'
  have HC2 := Lib.hid hc2
  have HC3 := Lib.hid hc3
  have H1 := Lib.hid h1
  have H2 := Lib.hid h2
  have H3 := Lib.hid h3
  have HN := Lib.hid hn
  have HN' := Lib.hid hn'
  obtain ⟨f1, f2⟩ := Bool.and_eq_true_iff.1 h1
  obtain ⟨f3, f4⟩ := Bool.and_eq_true_iff.1 h2
  obtain ⟨la, za⟩ := few_of f1
  obtain ⟨lb, zb⟩ := few_of f2
  obtain ⟨la', za'⟩ := few_of f3
  obtain ⟨lb', zb'⟩ := few_of f4
  obtain ⟨ll, zl⟩ := few_of h3
  have ZA := Lib.hid za
  have ZB := Lib.hid zb
  have ZA' := Lib.hid za'
  have ZB' := Lib.hid zb'
  have ZL := Lib.hid zl
  have H0 := Lib.hid h0
  have jl := joinR_len a b a' b'
  obtain ⟨P, hP⟩ : ∃ p, (joinR a b a' b').map (·.1) = p := ⟨_, rfl⟩
  obtain ⟨Q, hQ⟩ : ∃ p, (joinR a b a' b').map (·.2) = p := ⟨_, rfl⟩
  have lP : P.length ≤ 210 := by rw [← hP, List.length_map]; omega
  have lQ : Q.length ≤ 210 := by rw [← hQ, List.length_map]; omega
  have HP := Lib.hid hP
  have HQ := Lib.hid hQ
  have ml := mapR_len a b l
  obtain ⟨M, hM⟩ : ∃ p, mapR a b l = p := ⟨_, rfl⟩
  obtain ⟨me, hE⟩ : ∃ p, mapE a b l = p := ⟨_, rfl⟩
  have lM : M.length ≤ 210 := by rw [← hM]; omega
  have HM := Lib.hid hM
  have HE := Lib.hid hE
  clear hc hc' hc2 hc3 h1 h2 h3 hn hn' f1 f2 f3 f4 za zb za' zb' zl jl hP hQ ml hM hE
  have HT := Lib.hid (check_turn.1 h0)
  clear h0
  have HV := Lib.hid hv
  have HU := Lib.hid hu
  have HV' := Lib.hid hv'
  have HU' := Lib.hid hu'
  have HL := Lib.hid ht
  obtain ⟨va, vc, rfl⟩ := hv.slice
  obtain ⟨ua, uc, rfl⟩ := hu.slice
  obtain ⟨va', vc', rfl⟩ := hv'.slice
  obtain ⟨ua', uc', rfl⟩ := hu'.slice
  obtain ⟨ta, tc, rfl⟩ := ht.slice
  clear hv hu hv' hu' ht
  go_enter Try.func4, Try.ntmps4
  go_wp2_with fail
  have a1 : Below w.heap.size w ((w.alloc (.cells #[.slice va a.length vc, .slice ua b.length uc] 24)).alloc (.cells #[.slice va' a'.length vc', .slice ua' b'.length uc'] 24)) := (((Below.refl w.heap.size w).alloc (by first | exact Nat.le_refl _ | (simp only [World.size_alloc]; omega)) (.cells #[.slice va a.length vc, .slice ua b.length uc] 24)).alloc (by first | exact Nat.le_refl _ | (simp only [World.size_alloc]; omega)) (.cells #[.slice va' a'.length vc', .slice ua' b'.length uc'] 24))
  have T_new0 := ((Blk.new w #[.slice va a.length vc, .slice ua b.length uc] 24).alloc (.cells #[.slice va' a'.length vc', .slice ua' b'.length uc'] 24))
  have KT_00 := Lib.hid T_new0
  clear T_new0
  have O_new0 := (Blk.new (w.alloc (.cells #[.slice va a.length vc, .slice ua b.length uc] 24)) #[.slice va' a'.length vc', .slice ua' b'.length uc'] 24)
  rw [World.size_alloc] at O_new0
  have KO_00 := Lib.hid O_new0
  clear O_new0
  have V_1 := Lib.hid (HV.out.below a1)
  clear HV
  have U_1 := Lib.hid (HU.out.below a1)
  clear HU
  have V'_1 := Lib.hid (HV'.out.below a1)
  clear HV'
  have U'_1 := Lib.hid (HU'.out.below a1)
  clear HU'
  have LL_1 := Lib.hid (HL.out.below a1)
  clear HL
  have B_1 := Lib.hid a1
  clear a1
  generalize ((w.alloc (.cells #[.slice va a.length vc, .slice ua b.length uc] 24)).alloc (.cells #[.slice va' a'.length vc', .slice ua' b'.length uc'] 24)) = w1 at V_1 U_1 V'_1 U'_1 LL_1 KT_00 KO_00 B_1 ⊢
  refine (works_any _).mono ?_
  rintro e w2 ⟨rfl, b2⟩
  have V_2 := Lib.hid (V_1.out.below b2)
  clear V_1
  have U_2 := Lib.hid (U_1.out.below b2)
  clear U_1
  have V'_2 := Lib.hid (V'_1.out.below b2)
  clear V'_1
  have U'_2 := Lib.hid (U'_1.out.below b2)
  clear U'_1
  have LL_2 := Lib.hid (LL_1.out.below b2)
  clear LL_1
  have KT_2 := Lib.hid (KT_00.out.below b2 KT_00.out.lt)
  clear KT_00
  have KO_2 := Lib.hid (KO_00.out.below b2 KO_00.out.lt)
  clear KO_00
  have B_2 := Lib.hid (B_1.out.trans (b2.mono B_1.out.size))
  clear B_1
  clear b2
  have lT_2 : w.heap.size < w2.heap.size := KT_2.out.lt
  have cT_0_2 : w2.cell? ⟨w.heap.size, 0, none⟩ = some (.slice va a.length vc) := KT_2.out.cell 0
  have cT_1_2 : w2.cell? ⟨w.heap.size, 1, none⟩ = some (.slice ua b.length uc) := KT_2.out.cell 1
  have lO_2 : w.heap.size + 1 < w2.heap.size := KO_2.out.lt
  have cO_0_2 : w2.cell? ⟨w.heap.size + 1, 0, none⟩ = some (.slice va' a'.length vc') := KO_2.out.cell 0
  have cO_1_2 : w2.cell? ⟨w.heap.size + 1, 1, none⟩ = some (.slice ua' b'.length uc') := KO_2.out.cell 1
  go_wp2_with fail
  clear lT_2 cT_0_2 cT_1_2 lO_2 cO_0_2 cO_1_2
  refine (few_ex a b _ _ true _ V_2.out U_2.out H1.out).mono ?_
  rintro e w3 ⟨rfl, b3⟩
  have V_3 := Lib.hid (V_2.out.below b3)
  clear V_2
  have U_3 := Lib.hid (U_2.out.below b3)
  clear U_2
  have V'_3 := Lib.hid (V'_2.out.below b3)
  clear V'_2
  have U'_3 := Lib.hid (U'_2.out.below b3)
  clear U'_2
  have LL_3 := Lib.hid (LL_2.out.below b3)
  clear LL_2
  have KT_3 := Lib.hid (KT_2.out.below b3 KT_2.out.lt)
  clear KT_2
  have KO_3 := Lib.hid (KO_2.out.below b3 KO_2.out.lt)
  clear KO_2
  have B_3 := Lib.hid (B_2.out.trans (b3.mono B_2.out.size))
  clear B_2
  clear b3
  have lT_3 : w.heap.size < w3.heap.size := KT_3.out.lt
  have cT_0_3 : w3.cell? ⟨w.heap.size, 0, none⟩ = some (.slice va a.length vc) := KT_3.out.cell 0
  have cT_1_3 : w3.cell? ⟨w.heap.size, 1, none⟩ = some (.slice ua b.length uc) := KT_3.out.cell 1
  have lO_3 : w.heap.size + 1 < w3.heap.size := KO_3.out.lt
  have cO_0_3 : w3.cell? ⟨w.heap.size + 1, 0, none⟩ = some (.slice va' a'.length vc') := KO_3.out.cell 0
  have cO_1_3 : w3.cell? ⟨w.heap.size + 1, 1, none⟩ = some (.slice ua' b'.length uc') := KO_3.out.cell 1
  go_wp2_with fail
  clear lT_3 cT_0_3 cT_1_3 lO_3 cO_0_3 cO_1_3
  refine (few_ex a' b' _ _ true _ V'_3.out U'_3.out H2.out).mono ?_
  rintro e w4 ⟨rfl, b4⟩
  have V_4 := Lib.hid (V_3.out.below b4)
  clear V_3
  have U_4 := Lib.hid (U_3.out.below b4)
  clear U_3
  have V'_4 := Lib.hid (V'_3.out.below b4)
  clear V'_3
  have U'_4 := Lib.hid (U'_3.out.below b4)
  clear U'_3
  have LL_4 := Lib.hid (LL_3.out.below b4)
  clear LL_3
  have KT_4 := Lib.hid (KT_3.out.below b4 KT_3.out.lt)
  clear KT_3
  have KO_4 := Lib.hid (KO_3.out.below b4 KO_3.out.lt)
  clear KO_3
  have B_4 := Lib.hid (B_3.out.trans (b4.mono B_3.out.size))
  clear B_3
  clear b4
  go_wp2_with fail
  refine (few30_ex l _ true _ LL_4.out H3.out).mono ?_
  rintro e w' ⟨rfl, rfl⟩
  go_wp2_with fail
  have hd5 : Below w4.heap.size w4 w4.drew := (Below.refl _ _).drew
  have HS5 : Hid (∀ X : World, Below w4.heap.size w4 X → X.cell? ⟨w.heap.size, 0, none⟩ = some (.slice va a.length vc) ∧ X.cell? ⟨w.heap.size, 1, none⟩ = some (.slice ua b.length uc) ∧ X.cell? ⟨w.heap.size + 1, 0, none⟩ = some (.slice va' a'.length vc') ∧ X.cell? ⟨w.heap.size + 1, 1, none⟩ = some (.slice ua' b'.length uc')) := Lib.hid fun X h => ⟨(h.cell (p := ⟨w.heap.size, 0, none⟩) KT_4.out.lt).trans (KT_4.out.cell 0), (h.cell (p := ⟨w.heap.size, 1, none⟩) KT_4.out.lt).trans (KT_4.out.cell 1), (h.cell (p := ⟨w.heap.size + 1, 0, none⟩) KO_4.out.lt).trans (KO_4.out.cell 0), (h.cell (p := ⟨w.heap.size + 1, 1, none⟩) KO_4.out.lt).trans (KO_4.out.cell 1)⟩
  obtain ⟨x5_0, x5_1, x5_2, x5_3⟩ := HS5.out _ hd5
  go_region_held3 (fun X => X.cell? ⟨w.heap.size, 0, none⟩ = some (.slice va a.length vc) ∧ X.cell? ⟨w.heap.size, 1, none⟩ = some (.slice ua b.length uc) ∧ X.cell? ⟨w.heap.size + 1, 0, none⟩ = some (.slice va' a'.length vc') ∧ X.cell? ⟨w.heap.size + 1, 1, none⟩ = some (.slice ua' b'.length uc') ∧ Below w4.heap.size w4 X) (go_keep)
    (first | (go_at_call 27; (with_reducible refine (inv_ex a b _ _ 0 _ (V_4.out.below (by assumption)) (U_4.out.below (by assumption)) ZA.out ZB.out HN.out HN'.out HT.out).mono ?_); rintro e w5 ⟨V1, rfl, ht, hb⟩; have rB5 := chain (a := w4) hb (by assumption); obtain ⟨x5_0, x5_1, x5_2, x5_3⟩ := HS5.out _ rB5; rw [okL_yes rfl, okL_yes rfl] at ht; obtain ⟨x1, x2, rfl, q1, q2⟩ := ht; obtain ⟨xa, xc, rfl⟩ := row_slice q1; obtain ⟨ya, yc, rfl⟩ := row_slice q2; clear hb) | (go_at_call 17; (with_reducible refine (of_any _ _ _ ⟨_, _, _, rfl⟩ ⟨_, _, _, rfl⟩).mono ?_); rintro e w5 ⟨rfl, hb⟩; have rB5 := chain (a := w4) hb (by assumption); obtain ⟨x5_0, x5_1, x5_2, x5_3⟩ := HS5.out _ rB5; try (have q1 := row_below q1 hb; have q2 := row_below q2 hb); clear hb) | (go_at_call 22; (with_reducible refine (rinv_yes a b _ _ _ (V_4.out.below (by assumption)) (U_4.out.below (by assumption)) ZA.out ZB.out HC.out HC'.out H0.out).mono ?_); rintro e w5 ⟨rfl, hb⟩; have rB5 := chain (a := w4) hb (by assumption); obtain ⟨x5_0, x5_1, x5_2, x5_3⟩ := HS5.out _ rB5; try (have q1 := row_below q1 hb; have q2 := row_below q2 hb); clear hb) | (go_at_call 23; (with_reducible refine (rsame_ex b a b a _ _ _ _ true _ (by first | omega | simp) (by first | omega | simp) (by first | omega | simp) (by first | omega | simp) (Lst.of_row q1) (Lst.of_row q2) (U_4.out.below (by assumption)) (V_4.out.below (by assumption)) (both_self _ _)).mono ?_); rintro e w5 ⟨rfl, hb⟩; have rB5 := chain (a := w4) hb (by assumption); obtain ⟨x5_0, x5_1, x5_2, x5_3⟩ := HS5.out _ rB5; clear hb))
  have b5 : Below w4.heap.size w4 w5 := by assumption
  clear HS5
  have V_5 := Lib.hid (V_4.out.below b5)
  clear V_4
  have U_5 := Lib.hid (U_4.out.below b5)
  clear U_4
  have V'_5 := Lib.hid (V'_4.out.below b5)
  clear V'_4
  have U'_5 := Lib.hid (U'_4.out.below b5)
  clear U'_4
  have LL_5 := Lib.hid (LL_4.out.below b5)
  clear LL_4
  have KT_5 := Lib.hid (KT_4.out.below b5 KT_4.out.lt)
  clear KT_4
  have KO_5 := Lib.hid (KO_4.out.below b5 KO_4.out.lt)
  clear KO_4
  have B_5 := Lib.hid (B_4.out.trans (b5.mono B_4.out.size))
  clear B_4
  clear q1 q2
  go_wp2_with fail
  have hd6 : Below w5.heap.size w5 w5.drew := (Below.refl _ _).drew
  have HS6 : Hid (∀ X : World, Below w5.heap.size w5 X → X.cell? ⟨w.heap.size, 0, none⟩ = some (.slice va a.length vc) ∧ X.cell? ⟨w.heap.size, 1, none⟩ = some (.slice ua b.length uc) ∧ X.cell? ⟨w.heap.size + 1, 0, none⟩ = some (.slice va' a'.length vc') ∧ X.cell? ⟨w.heap.size + 1, 1, none⟩ = some (.slice ua' b'.length uc')) := Lib.hid fun X h => ⟨(h.cell (p := ⟨w.heap.size, 0, none⟩) KT_5.out.lt).trans (KT_5.out.cell 0), (h.cell (p := ⟨w.heap.size, 1, none⟩) KT_5.out.lt).trans (KT_5.out.cell 1), (h.cell (p := ⟨w.heap.size + 1, 0, none⟩) KO_5.out.lt).trans (KO_5.out.cell 0), (h.cell (p := ⟨w.heap.size + 1, 1, none⟩) KO_5.out.lt).trans (KO_5.out.cell 1)⟩
  obtain ⟨x6_0, x6_1, x6_2, x6_3⟩ := HS6.out _ hd6
  go_region_held3 (fun X => X.cell? ⟨w.heap.size, 0, none⟩ = some (.slice va a.length vc) ∧ X.cell? ⟨w.heap.size, 1, none⟩ = some (.slice ua b.length uc) ∧ X.cell? ⟨w.heap.size + 1, 0, none⟩ = some (.slice va' a'.length vc') ∧ X.cell? ⟨w.heap.size + 1, 1, none⟩ = some (.slice ua' b'.length uc') ∧ Below w5.heap.size w5 X) (go_keep)
    (first | (go_at_call 28; (with_reducible refine (join_ex a b a' b' _ _ _ _ P Q _ (V_5.out.below (by assumption)) (U_5.out.below (by assumption)) (V'_5.out.below (by assumption)) (U'_5.out.below (by assumption)) ZA.out ZB.out ZA'.out ZB'.out HP.out HQ.out).mono ?_); rintro e w6 ⟨V2, rfl, ht, hb⟩; have rB6 := chain (a := w5) hb (by assumption); obtain ⟨x6_0, x6_1, x6_2, x6_3⟩ := HS6.out _ rB6; obtain ⟨x1, x2, rfl, q1, q2⟩ := ht; obtain ⟨xa, xc, rfl⟩ := row_slice q1; obtain ⟨ya, yc, rfl⟩ := row_slice q2; clear hb) | (go_at_call 17; (with_reducible refine (of_any _ _ _ ⟨_, _, _, rfl⟩ ⟨_, _, _, rfl⟩).mono ?_); rintro e w6 ⟨rfl, hb⟩; have rB6 := chain (a := w5) hb (by assumption); obtain ⟨x6_0, x6_1, x6_2, x6_3⟩ := HS6.out _ rB6; try (have q1 := row_below q1 hb; have q2 := row_below q2 hb); clear hb) | (go_at_call 29; (with_reducible refine (rjoin_ex a b a' b' _ _ _ _ P Q _ (V_5.out.below (by assumption)) (U_5.out.below (by assumption)) (V'_5.out.below (by assumption)) (U'_5.out.below (by assumption)) ZA.out ZB.out ZA'.out ZB'.out HC.out HC'.out HC2.out HC3.out HP.out HQ.out).mono ?_); rintro e w6 ⟨V3, rfl, ht, hb⟩; have rB6 := chain (a := w5) hb (by assumption); obtain ⟨x6_0, x6_1, x6_2, x6_3⟩ := HS6.out _ rB6; try (have q1 := row_below q1 hb; have q2 := row_below q2 hb); obtain ⟨x3, x4, rfl, q3, q4⟩ := ht; obtain ⟨xa', xc', rfl⟩ := row_slice q3; obtain ⟨ya', yc', rfl⟩ := row_slice q4; clear hb) | (go_at_call 23; (with_reducible refine (rsame_ex P Q P Q _ _ _ _ true _ lP lQ lP lQ (Lst.of_row q1) (Lst.of_row q2) (Lst.of_row q3) (Lst.of_row q4) (both_self _ _)).mono ?_); rintro e w6 ⟨rfl, hb⟩; have rB6 := chain (a := w5) hb (by assumption); obtain ⟨x6_0, x6_1, x6_2, x6_3⟩ := HS6.out _ rB6; clear hb))
  have b6 : Below w5.heap.size w5 w6 := by assumption
  clear HS6
  have V_6 := Lib.hid (V_5.out.below b6)
  clear V_5
  have U_6 := Lib.hid (U_5.out.below b6)
  clear U_5
  have V'_6 := Lib.hid (V'_5.out.below b6)
  clear V'_5
  have U'_6 := Lib.hid (U'_5.out.below b6)
  clear U'_5
  have LL_6 := Lib.hid (LL_5.out.below b6)
  clear LL_5
  have KT_6 := Lib.hid (KT_5.out.below b6 KT_5.out.lt)
  clear KT_5
  have KO_6 := Lib.hid (KO_5.out.below b6 KO_5.out.lt)
  clear KO_5
  have B_6 := Lib.hid (B_5.out.trans (b6.mono B_5.out.size))
  clear B_5
  clear q1 q2 q3 q4
  have lT_6 : w.heap.size < w6.heap.size := KT_6.out.lt
  have cT_0_6 : w6.cell? ⟨w.heap.size, 0, none⟩ = some (.slice va a.length vc) := KT_6.out.cell 0
  have cT_1_6 : w6.cell? ⟨w.heap.size, 1, none⟩ = some (.slice ua b.length uc) := KT_6.out.cell 1
  go_wp2_with fail
  clear lT_6 cT_0_6 cT_1_6
  refine (map_ex a b l _ _ _ M me _ V_6.out U_6.out LL_6.out ZA.out ZB.out ZL.out (by omega) HM.out HE.out).mono ?_
  rintro e w7 ⟨V4, rfl, r1, b7⟩
  have V_7 := Lib.hid (V_6.out.below b7)
  clear V_6
  have U_7 := Lib.hid (U_6.out.below b7)
  clear U_6
  have V'_7 := Lib.hid (V'_6.out.below b7)
  clear V'_6
  have U'_7 := Lib.hid (U'_6.out.below b7)
  clear U'_6
  have LL_7 := Lib.hid (LL_6.out.below b7)
  clear LL_6
  have KT_7 := Lib.hid (KT_6.out.below b7 KT_6.out.lt)
  clear KT_6
  have KO_7 := Lib.hid (KO_6.out.below b7 KO_6.out.lt)
  clear KO_6
  have B_7 := Lib.hid (B_6.out.trans (b7.mono B_6.out.size))
  clear B_6
  clear b7
  obtain ⟨ma, mc, rfl⟩ := row_slice r1
  have M1 := Lib.hid r1
  clear r1
  have lT_7 : w.heap.size < w7.heap.size := KT_7.out.lt
  have cT_0_7 : w7.cell? ⟨w.heap.size, 0, none⟩ = some (.slice va a.length vc) := KT_7.out.cell 0
  have cT_1_7 : w7.cell? ⟨w.heap.size, 1, none⟩ = some (.slice ua b.length uc) := KT_7.out.cell 1
  go_wp2_with fail
  clear lT_7 cT_0_7 cT_1_7
  refine (of_any _ _ _ ⟨_, _, _, rfl⟩ ⟨_, _, _, rfl⟩).mono ?_
  rintro e w8 ⟨rfl, b8⟩
  have V_8 := Lib.hid (V_7.out.below b8)
  clear V_7
  have U_8 := Lib.hid (U_7.out.below b8)
  clear U_7
  have V'_8 := Lib.hid (V'_7.out.below b8)
  clear V'_7
  have U'_8 := Lib.hid (U'_7.out.below b8)
  clear U'_7
  have LL_8 := Lib.hid (LL_7.out.below b8)
  clear LL_7
  have M1_8 := Lib.hid (row_below M1.out b8)
  clear M1
  have KT_8 := Lib.hid (KT_7.out.below b8 KT_7.out.lt)
  clear KT_7
  have KO_8 := Lib.hid (KO_7.out.below b8 KO_7.out.lt)
  clear KO_7
  have B_8 := Lib.hid (B_7.out.trans (b8.mono B_7.out.size))
  clear B_7
  clear b8
  go_wp2_with fail
  refine (rmap_ex a b l _ _ _ M me _ V_8.out U_8.out LL_8.out ZA.out ZB.out HC.out HC'.out (by omega) HM.out HE.out).mono ?_
  rintro e w9 ⟨V5, rfl, r2, b9⟩
  have V_9 := Lib.hid (V_8.out.below b9)
  clear V_8
  have U_9 := Lib.hid (U_8.out.below b9)
  clear U_8
  have V'_9 := Lib.hid (V'_8.out.below b9)
  clear V'_8
  have U'_9 := Lib.hid (U'_8.out.below b9)
  clear U'_8
  have LL_9 := Lib.hid (LL_8.out.below b9)
  clear LL_8
  have M1_9 := Lib.hid (row_below M1_8.out b9)
  clear M1_8
  have KT_9 := Lib.hid (KT_8.out.below b9 KT_8.out.lt)
  clear KT_8
  have KO_9 := Lib.hid (KO_8.out.below b9 KO_8.out.lt)
  clear KO_8
  have B_9 := Lib.hid (B_8.out.trans (b9.mono B_8.out.size))
  clear B_8
  clear b9
  obtain ⟨na, nc, rfl⟩ := row_slice r2
  have M2 := Lib.hid r2
  clear r2
  go_wp2_with fail
  refine (texts_ex M M _ _ true _ lM lM (Lst.of_row M1_9.out) (Lst.of_row M2.out) (same_self M)).mono ?_
  rintro e w10 ⟨rfl, b10⟩
  have V_10 := Lib.hid (V_9.out.below b10)
  clear V_9
  have U_10 := Lib.hid (U_9.out.below b10)
  clear U_9
  have V'_10 := Lib.hid (V'_9.out.below b10)
  clear V'_9
  have U'_10 := Lib.hid (U'_9.out.below b10)
  clear U'_9
  have LL_10 := Lib.hid (LL_9.out.below b10)
  clear LL_9
  have M1_10 := Lib.hid (row_below M1_9.out b10)
  clear M1_9
  have M2_10 := Lib.hid (row_below M2.out b10)
  clear M2
  have KT_10 := Lib.hid (KT_9.out.below b10 KT_9.out.lt)
  clear KT_9
  have KO_10 := Lib.hid (KO_9.out.below b10 KO_9.out.lt)
  clear KO_9
  have B_10 := Lib.hid (B_9.out.trans (b10.mono B_9.out.size))
  clear B_9
  clear b10
  go_wp2
  go_ret
  exact ⟨rfl, B_10.out⟩

theorem makes_bad (a b a' b' l : List ByteArray) (v u v' u' t : Value) (w : World) (hv : Lst stc w v a) (hu : Lst stc w u b) (hv' : Lst stc w v' a') (hu' : Lst stc w u' b') (ht : Lst stc w t l) (hc : CapFine v) (hc' : CapFine u) (hc2 : CapFine v') (hc3 : CapFine u') (hn : NilFine v) (hn' : NilFine u) (h1 : (fewB a 210 && fewB b 210) = true) (h2 : (fewB a' 210 && fewB b' 210) = true) (h3 : fewB l 30 = true) (h0 : ¬ checkF a b = 0) :
    Calls Try.prog 4 #[.agg #[v, u], .agg #[v', u'], t] w fun e w' => e = .returned (.bool true) ∧ Below w.heap.size w w' := by
  have HC := Lib.hid hc
  have HC' := Lib.hid hc'
  have HC2 := Lib.hid hc2
  have HC3 := Lib.hid hc3
  have H1 := Lib.hid h1
  have H2 := Lib.hid h2
  have H3 := Lib.hid h3
  have HN := Lib.hid hn
  have HN' := Lib.hid hn'
  obtain ⟨f1, f2⟩ := Bool.and_eq_true_iff.1 h1
  obtain ⟨f3, f4⟩ := Bool.and_eq_true_iff.1 h2
  obtain ⟨la, za⟩ := few_of f1
  obtain ⟨lb, zb⟩ := few_of f2
  obtain ⟨la', za'⟩ := few_of f3
  obtain ⟨lb', zb'⟩ := few_of f4
  obtain ⟨ll, zl⟩ := few_of h3
  have ZA := Lib.hid za
  have ZB := Lib.hid zb
  have ZA' := Lib.hid za'
  have ZB' := Lib.hid zb'
  have ZL := Lib.hid zl
  have H0 := Lib.hid h0
  have jl := joinR_len a b a' b'
  obtain ⟨P, hP⟩ : ∃ p, (joinR a b a' b').map (·.1) = p := ⟨_, rfl⟩
  obtain ⟨Q, hQ⟩ : ∃ p, (joinR a b a' b').map (·.2) = p := ⟨_, rfl⟩
  have lP : P.length ≤ 210 := by rw [← hP, List.length_map]; omega
  have lQ : Q.length ≤ 210 := by rw [← hQ, List.length_map]; omega
  have HP := Lib.hid hP
  have HQ := Lib.hid hQ
  have ml := mapR_len a b l
  obtain ⟨M, hM⟩ : ∃ p, mapR a b l = p := ⟨_, rfl⟩
  obtain ⟨me, hE⟩ : ∃ p, mapE a b l = p := ⟨_, rfl⟩
  have lM : M.length ≤ 210 := by rw [← hM]; omega
  have HM := Lib.hid hM
  have HE := Lib.hid hE
  clear hc hc' hc2 hc3 h1 h2 h3 hn hn' f1 f2 f3 f4 za zb za' zb' zl jl hP hQ ml hM hE
  obtain ⟨q, hq⟩ : ∃ q, checkF b a = q := ⟨_, rfl⟩
  have HT := Lib.hid hq
  have HQ0 := Lib.hid (show ¬ q = 0 from fun h => h0 (check_turn.2 (hq.trans h)))
  clear h0 hq
  have HV := Lib.hid hv
  have HU := Lib.hid hu
  have HV' := Lib.hid hv'
  have HU' := Lib.hid hu'
  have HL := Lib.hid ht
  obtain ⟨va, vc, rfl⟩ := hv.slice
  obtain ⟨ua, uc, rfl⟩ := hu.slice
  obtain ⟨va', vc', rfl⟩ := hv'.slice
  obtain ⟨ua', uc', rfl⟩ := hu'.slice
  obtain ⟨ta, tc, rfl⟩ := ht.slice
  clear hv hu hv' hu' ht
  go_enter Try.func4, Try.ntmps4
  go_wp2_with fail
  have a1 : Below w.heap.size w ((w.alloc (.cells #[.slice va a.length vc, .slice ua b.length uc] 24)).alloc (.cells #[.slice va' a'.length vc', .slice ua' b'.length uc'] 24)) := (((Below.refl w.heap.size w).alloc (by first | exact Nat.le_refl _ | (simp only [World.size_alloc]; omega)) (.cells #[.slice va a.length vc, .slice ua b.length uc] 24)).alloc (by first | exact Nat.le_refl _ | (simp only [World.size_alloc]; omega)) (.cells #[.slice va' a'.length vc', .slice ua' b'.length uc'] 24))
  have T_new0 := ((Blk.new w #[.slice va a.length vc, .slice ua b.length uc] 24).alloc (.cells #[.slice va' a'.length vc', .slice ua' b'.length uc'] 24))
  have KT_00 := Lib.hid T_new0
  clear T_new0
  have O_new0 := (Blk.new (w.alloc (.cells #[.slice va a.length vc, .slice ua b.length uc] 24)) #[.slice va' a'.length vc', .slice ua' b'.length uc'] 24)
  rw [World.size_alloc] at O_new0
  have KO_00 := Lib.hid O_new0
  clear O_new0
  have V_1 := Lib.hid (HV.out.below a1)
  clear HV
  have U_1 := Lib.hid (HU.out.below a1)
  clear HU
  have V'_1 := Lib.hid (HV'.out.below a1)
  clear HV'
  have U'_1 := Lib.hid (HU'.out.below a1)
  clear HU'
  have LL_1 := Lib.hid (HL.out.below a1)
  clear HL
  have B_1 := Lib.hid a1
  clear a1
  generalize ((w.alloc (.cells #[.slice va a.length vc, .slice ua b.length uc] 24)).alloc (.cells #[.slice va' a'.length vc', .slice ua' b'.length uc'] 24)) = w1 at V_1 U_1 V'_1 U'_1 LL_1 KT_00 KO_00 B_1 ⊢
  refine (works_any _).mono ?_
  rintro e w2 ⟨rfl, b2⟩
  have V_2 := Lib.hid (V_1.out.below b2)
  clear V_1
  have U_2 := Lib.hid (U_1.out.below b2)
  clear U_1
  have V'_2 := Lib.hid (V'_1.out.below b2)
  clear V'_1
  have U'_2 := Lib.hid (U'_1.out.below b2)
  clear U'_1
  have LL_2 := Lib.hid (LL_1.out.below b2)
  clear LL_1
  have KT_2 := Lib.hid (KT_00.out.below b2 KT_00.out.lt)
  clear KT_00
  have KO_2 := Lib.hid (KO_00.out.below b2 KO_00.out.lt)
  clear KO_00
  have B_2 := Lib.hid (B_1.out.trans (b2.mono B_1.out.size))
  clear B_1
  clear b2
  have lT_2 : w.heap.size < w2.heap.size := KT_2.out.lt
  have cT_0_2 : w2.cell? ⟨w.heap.size, 0, none⟩ = some (.slice va a.length vc) := KT_2.out.cell 0
  have cT_1_2 : w2.cell? ⟨w.heap.size, 1, none⟩ = some (.slice ua b.length uc) := KT_2.out.cell 1
  have lO_2 : w.heap.size + 1 < w2.heap.size := KO_2.out.lt
  have cO_0_2 : w2.cell? ⟨w.heap.size + 1, 0, none⟩ = some (.slice va' a'.length vc') := KO_2.out.cell 0
  have cO_1_2 : w2.cell? ⟨w.heap.size + 1, 1, none⟩ = some (.slice ua' b'.length uc') := KO_2.out.cell 1
  go_wp2_with fail
  clear lT_2 cT_0_2 cT_1_2 lO_2 cO_0_2 cO_1_2
  refine (few_ex a b _ _ true _ V_2.out U_2.out H1.out).mono ?_
  rintro e w3 ⟨rfl, b3⟩
  have V_3 := Lib.hid (V_2.out.below b3)
  clear V_2
  have U_3 := Lib.hid (U_2.out.below b3)
  clear U_2
  have V'_3 := Lib.hid (V'_2.out.below b3)
  clear V'_2
  have U'_3 := Lib.hid (U'_2.out.below b3)
  clear U'_2
  have LL_3 := Lib.hid (LL_2.out.below b3)
  clear LL_2
  have KT_3 := Lib.hid (KT_2.out.below b3 KT_2.out.lt)
  clear KT_2
  have KO_3 := Lib.hid (KO_2.out.below b3 KO_2.out.lt)
  clear KO_2
  have B_3 := Lib.hid (B_2.out.trans (b3.mono B_2.out.size))
  clear B_2
  clear b3
  have lT_3 : w.heap.size < w3.heap.size := KT_3.out.lt
  have cT_0_3 : w3.cell? ⟨w.heap.size, 0, none⟩ = some (.slice va a.length vc) := KT_3.out.cell 0
  have cT_1_3 : w3.cell? ⟨w.heap.size, 1, none⟩ = some (.slice ua b.length uc) := KT_3.out.cell 1
  have lO_3 : w.heap.size + 1 < w3.heap.size := KO_3.out.lt
  have cO_0_3 : w3.cell? ⟨w.heap.size + 1, 0, none⟩ = some (.slice va' a'.length vc') := KO_3.out.cell 0
  have cO_1_3 : w3.cell? ⟨w.heap.size + 1, 1, none⟩ = some (.slice ua' b'.length uc') := KO_3.out.cell 1
  go_wp2_with fail
  clear lT_3 cT_0_3 cT_1_3 lO_3 cO_0_3 cO_1_3
  refine (few_ex a' b' _ _ true _ V'_3.out U'_3.out H2.out).mono ?_
  rintro e w4 ⟨rfl, b4⟩
  have V_4 := Lib.hid (V_3.out.below b4)
  clear V_3
  have U_4 := Lib.hid (U_3.out.below b4)
  clear U_3
  have V'_4 := Lib.hid (V'_3.out.below b4)
  clear V'_3
  have U'_4 := Lib.hid (U'_3.out.below b4)
  clear U'_3
  have LL_4 := Lib.hid (LL_3.out.below b4)
  clear LL_3
  have KT_4 := Lib.hid (KT_3.out.below b4 KT_3.out.lt)
  clear KT_3
  have KO_4 := Lib.hid (KO_3.out.below b4 KO_3.out.lt)
  clear KO_3
  have B_4 := Lib.hid (B_3.out.trans (b4.mono B_3.out.size))
  clear B_3
  clear b4
  go_wp2_with fail
  refine (few30_ex l _ true _ LL_4.out H3.out).mono ?_
  rintro e w' ⟨rfl, rfl⟩
  go_wp2_with fail
  have hd5 : Below w4.heap.size w4 w4.drew := (Below.refl _ _).drew
  have HS5 : Hid (∀ X : World, Below w4.heap.size w4 X → X.cell? ⟨w.heap.size, 0, none⟩ = some (.slice va a.length vc) ∧ X.cell? ⟨w.heap.size, 1, none⟩ = some (.slice ua b.length uc) ∧ X.cell? ⟨w.heap.size + 1, 0, none⟩ = some (.slice va' a'.length vc') ∧ X.cell? ⟨w.heap.size + 1, 1, none⟩ = some (.slice ua' b'.length uc')) := Lib.hid fun X h => ⟨(h.cell (p := ⟨w.heap.size, 0, none⟩) KT_4.out.lt).trans (KT_4.out.cell 0), (h.cell (p := ⟨w.heap.size, 1, none⟩) KT_4.out.lt).trans (KT_4.out.cell 1), (h.cell (p := ⟨w.heap.size + 1, 0, none⟩) KO_4.out.lt).trans (KO_4.out.cell 0), (h.cell (p := ⟨w.heap.size + 1, 1, none⟩) KO_4.out.lt).trans (KO_4.out.cell 1)⟩
  obtain ⟨x5_0, x5_1, x5_2, x5_3⟩ := HS5.out _ hd5
  go_region_held3 (fun X => X.cell? ⟨w.heap.size, 0, none⟩ = some (.slice va a.length vc) ∧ X.cell? ⟨w.heap.size, 1, none⟩ = some (.slice ua b.length uc) ∧ X.cell? ⟨w.heap.size + 1, 0, none⟩ = some (.slice va' a'.length vc') ∧ X.cell? ⟨w.heap.size + 1, 1, none⟩ = some (.slice ua' b'.length uc') ∧ Below w4.heap.size w4 X) (go_keep)
    (first | (go_at_call 27; (with_reducible refine (inv_ex a b _ _ q _ (V_4.out.below (by assumption)) (U_4.out.below (by assumption)) ZA.out ZB.out HN.out HN'.out HT.out).mono ?_); rintro e w5 ⟨V1, rfl, ht, hb⟩; have rB5 := chain (a := w4) hb (by assumption); obtain ⟨x5_0, x5_1, x5_2, x5_3⟩ := HS5.out _ rB5; rw [okL_no HQ0.out, okL_no HQ0.out] at ht; obtain ⟨x1, x2, rfl, q1, q2⟩ := ht; change World.ownsRow _ _ 9 1 x1 0 _ at q1; change World.ownsRow _ _ 9 1 x2 0 _ at q2; obtain ⟨xa, xc, rfl⟩ := row_slice q1; obtain ⟨ya, yc, rfl⟩ := row_slice q2; clear hb) | (go_at_call 17; (with_reducible refine (of_any _ _ _ ⟨_, _, _, rfl⟩ ⟨_, _, _, rfl⟩).mono ?_); rintro e w5 ⟨rfl, hb⟩; have rB5 := chain (a := w4) hb (by assumption); obtain ⟨x5_0, x5_1, x5_2, x5_3⟩ := HS5.out _ rB5; try (have q1 := row_below q1 hb; have q2 := row_below q2 hb); clear hb) | (go_at_call 22; (with_reducible refine (rinv_no a b _ _ _ (V_4.out.below (by assumption)) (U_4.out.below (by assumption)) ZA.out ZB.out HC.out HC'.out H0.out).mono ?_); rintro e w5 ⟨rfl, hb⟩; have rB5 := chain (a := w4) hb (by assumption); obtain ⟨x5_0, x5_1, x5_2, x5_3⟩ := HS5.out _ rB5; try (have q1 := row_below q1 hb; have q2 := row_below q2 hb); clear hb) | (go_at_call 23; (with_reducible refine (rsame_ex [] [] [] [] _ _ _ _ true _ (by first | omega | simp) (by first | omega | simp) (by first | omega | simp) (by first | omega | simp) (Lst.of_row q1) (Lst.of_row q2) Lst.nil Lst.nil (both_self _ _)).mono ?_); rintro e w5 ⟨rfl, hb⟩; have rB5 := chain (a := w4) hb (by assumption); obtain ⟨x5_0, x5_1, x5_2, x5_3⟩ := HS5.out _ rB5; clear hb))
  have b5 : Below w4.heap.size w4 w5 := by assumption
  clear HS5
  have V_5 := Lib.hid (V_4.out.below b5)
  clear V_4
  have U_5 := Lib.hid (U_4.out.below b5)
  clear U_4
  have V'_5 := Lib.hid (V'_4.out.below b5)
  clear V'_4
  have U'_5 := Lib.hid (U'_4.out.below b5)
  clear U'_4
  have LL_5 := Lib.hid (LL_4.out.below b5)
  clear LL_4
  have KT_5 := Lib.hid (KT_4.out.below b5 KT_4.out.lt)
  clear KT_4
  have KO_5 := Lib.hid (KO_4.out.below b5 KO_4.out.lt)
  clear KO_4
  have B_5 := Lib.hid (B_4.out.trans (b5.mono B_4.out.size))
  clear B_4
  clear q1 q2
  go_wp2_with fail
  have hd6 : Below w5.heap.size w5 w5.drew := (Below.refl _ _).drew
  have HS6 : Hid (∀ X : World, Below w5.heap.size w5 X → X.cell? ⟨w.heap.size, 0, none⟩ = some (.slice va a.length vc) ∧ X.cell? ⟨w.heap.size, 1, none⟩ = some (.slice ua b.length uc) ∧ X.cell? ⟨w.heap.size + 1, 0, none⟩ = some (.slice va' a'.length vc') ∧ X.cell? ⟨w.heap.size + 1, 1, none⟩ = some (.slice ua' b'.length uc')) := Lib.hid fun X h => ⟨(h.cell (p := ⟨w.heap.size, 0, none⟩) KT_5.out.lt).trans (KT_5.out.cell 0), (h.cell (p := ⟨w.heap.size, 1, none⟩) KT_5.out.lt).trans (KT_5.out.cell 1), (h.cell (p := ⟨w.heap.size + 1, 0, none⟩) KO_5.out.lt).trans (KO_5.out.cell 0), (h.cell (p := ⟨w.heap.size + 1, 1, none⟩) KO_5.out.lt).trans (KO_5.out.cell 1)⟩
  obtain ⟨x6_0, x6_1, x6_2, x6_3⟩ := HS6.out _ hd6
  go_region_held3 (fun X => X.cell? ⟨w.heap.size, 0, none⟩ = some (.slice va a.length vc) ∧ X.cell? ⟨w.heap.size, 1, none⟩ = some (.slice ua b.length uc) ∧ X.cell? ⟨w.heap.size + 1, 0, none⟩ = some (.slice va' a'.length vc') ∧ X.cell? ⟨w.heap.size + 1, 1, none⟩ = some (.slice ua' b'.length uc') ∧ Below w5.heap.size w5 X) (go_keep)
    (first | (go_at_call 28; (with_reducible refine (join_ex a b a' b' _ _ _ _ P Q _ (V_5.out.below (by assumption)) (U_5.out.below (by assumption)) (V'_5.out.below (by assumption)) (U'_5.out.below (by assumption)) ZA.out ZB.out ZA'.out ZB'.out HP.out HQ.out).mono ?_); rintro e w6 ⟨V2, rfl, ht, hb⟩; have rB6 := chain (a := w5) hb (by assumption); obtain ⟨x6_0, x6_1, x6_2, x6_3⟩ := HS6.out _ rB6; obtain ⟨x1, x2, rfl, q1, q2⟩ := ht; obtain ⟨xa, xc, rfl⟩ := row_slice q1; obtain ⟨ya, yc, rfl⟩ := row_slice q2; clear hb) | (go_at_call 17; (with_reducible refine (of_any _ _ _ ⟨_, _, _, rfl⟩ ⟨_, _, _, rfl⟩).mono ?_); rintro e w6 ⟨rfl, hb⟩; have rB6 := chain (a := w5) hb (by assumption); obtain ⟨x6_0, x6_1, x6_2, x6_3⟩ := HS6.out _ rB6; try (have q1 := row_below q1 hb; have q2 := row_below q2 hb); clear hb) | (go_at_call 29; (with_reducible refine (rjoin_ex a b a' b' _ _ _ _ P Q _ (V_5.out.below (by assumption)) (U_5.out.below (by assumption)) (V'_5.out.below (by assumption)) (U'_5.out.below (by assumption)) ZA.out ZB.out ZA'.out ZB'.out HC.out HC'.out HC2.out HC3.out HP.out HQ.out).mono ?_); rintro e w6 ⟨V3, rfl, ht, hb⟩; have rB6 := chain (a := w5) hb (by assumption); obtain ⟨x6_0, x6_1, x6_2, x6_3⟩ := HS6.out _ rB6; try (have q1 := row_below q1 hb; have q2 := row_below q2 hb); obtain ⟨x3, x4, rfl, q3, q4⟩ := ht; obtain ⟨xa', xc', rfl⟩ := row_slice q3; obtain ⟨ya', yc', rfl⟩ := row_slice q4; clear hb) | (go_at_call 23; (with_reducible refine (rsame_ex P Q P Q _ _ _ _ true _ lP lQ lP lQ (Lst.of_row q1) (Lst.of_row q2) (Lst.of_row q3) (Lst.of_row q4) (both_self _ _)).mono ?_); rintro e w6 ⟨rfl, hb⟩; have rB6 := chain (a := w5) hb (by assumption); obtain ⟨x6_0, x6_1, x6_2, x6_3⟩ := HS6.out _ rB6; clear hb))
  have b6 : Below w5.heap.size w5 w6 := by assumption
  clear HS6
  have V_6 := Lib.hid (V_5.out.below b6)
  clear V_5
  have U_6 := Lib.hid (U_5.out.below b6)
  clear U_5
  have V'_6 := Lib.hid (V'_5.out.below b6)
  clear V'_5
  have U'_6 := Lib.hid (U'_5.out.below b6)
  clear U'_5
  have LL_6 := Lib.hid (LL_5.out.below b6)
  clear LL_5
  have KT_6 := Lib.hid (KT_5.out.below b6 KT_5.out.lt)
  clear KT_5
  have KO_6 := Lib.hid (KO_5.out.below b6 KO_5.out.lt)
  clear KO_5
  have B_6 := Lib.hid (B_5.out.trans (b6.mono B_5.out.size))
  clear B_5
  clear q1 q2 q3 q4
  have lT_6 : w.heap.size < w6.heap.size := KT_6.out.lt
  have cT_0_6 : w6.cell? ⟨w.heap.size, 0, none⟩ = some (.slice va a.length vc) := KT_6.out.cell 0
  have cT_1_6 : w6.cell? ⟨w.heap.size, 1, none⟩ = some (.slice ua b.length uc) := KT_6.out.cell 1
  go_wp2_with fail
  clear lT_6 cT_0_6 cT_1_6
  refine (map_ex a b l _ _ _ M me _ V_6.out U_6.out LL_6.out ZA.out ZB.out ZL.out (by omega) HM.out HE.out).mono ?_
  rintro e w7 ⟨V4, rfl, r1, b7⟩
  have V_7 := Lib.hid (V_6.out.below b7)
  clear V_6
  have U_7 := Lib.hid (U_6.out.below b7)
  clear U_6
  have V'_7 := Lib.hid (V'_6.out.below b7)
  clear V'_6
  have U'_7 := Lib.hid (U'_6.out.below b7)
  clear U'_6
  have LL_7 := Lib.hid (LL_6.out.below b7)
  clear LL_6
  have KT_7 := Lib.hid (KT_6.out.below b7 KT_6.out.lt)
  clear KT_6
  have KO_7 := Lib.hid (KO_6.out.below b7 KO_6.out.lt)
  clear KO_6
  have B_7 := Lib.hid (B_6.out.trans (b7.mono B_6.out.size))
  clear B_6
  clear b7
  obtain ⟨ma, mc, rfl⟩ := row_slice r1
  have M1 := Lib.hid r1
  clear r1
  have lT_7 : w.heap.size < w7.heap.size := KT_7.out.lt
  have cT_0_7 : w7.cell? ⟨w.heap.size, 0, none⟩ = some (.slice va a.length vc) := KT_7.out.cell 0
  have cT_1_7 : w7.cell? ⟨w.heap.size, 1, none⟩ = some (.slice ua b.length uc) := KT_7.out.cell 1
  go_wp2_with fail
  clear lT_7 cT_0_7 cT_1_7
  refine (of_any _ _ _ ⟨_, _, _, rfl⟩ ⟨_, _, _, rfl⟩).mono ?_
  rintro e w8 ⟨rfl, b8⟩
  have V_8 := Lib.hid (V_7.out.below b8)
  clear V_7
  have U_8 := Lib.hid (U_7.out.below b8)
  clear U_7
  have V'_8 := Lib.hid (V'_7.out.below b8)
  clear V'_7
  have U'_8 := Lib.hid (U'_7.out.below b8)
  clear U'_7
  have LL_8 := Lib.hid (LL_7.out.below b8)
  clear LL_7
  have M1_8 := Lib.hid (row_below M1.out b8)
  clear M1
  have KT_8 := Lib.hid (KT_7.out.below b8 KT_7.out.lt)
  clear KT_7
  have KO_8 := Lib.hid (KO_7.out.below b8 KO_7.out.lt)
  clear KO_7
  have B_8 := Lib.hid (B_7.out.trans (b8.mono B_7.out.size))
  clear B_7
  clear b8
  go_wp2_with fail
  refine (rmap_ex a b l _ _ _ M me _ V_8.out U_8.out LL_8.out ZA.out ZB.out HC.out HC'.out (by omega) HM.out HE.out).mono ?_
  rintro e w9 ⟨V5, rfl, r2, b9⟩
  have V_9 := Lib.hid (V_8.out.below b9)
  clear V_8
  have U_9 := Lib.hid (U_8.out.below b9)
  clear U_8
  have V'_9 := Lib.hid (V'_8.out.below b9)
  clear V'_8
  have U'_9 := Lib.hid (U'_8.out.below b9)
  clear U'_8
  have LL_9 := Lib.hid (LL_8.out.below b9)
  clear LL_8
  have M1_9 := Lib.hid (row_below M1_8.out b9)
  clear M1_8
  have KT_9 := Lib.hid (KT_8.out.below b9 KT_8.out.lt)
  clear KT_8
  have KO_9 := Lib.hid (KO_8.out.below b9 KO_8.out.lt)
  clear KO_8
  have B_9 := Lib.hid (B_8.out.trans (b9.mono B_8.out.size))
  clear B_8
  clear b9
  obtain ⟨na, nc, rfl⟩ := row_slice r2
  have M2 := Lib.hid r2
  clear r2
  go_wp2_with fail
  refine (texts_ex M M _ _ true _ lM lM (Lst.of_row M1_9.out) (Lst.of_row M2.out) (same_self M)).mono ?_
  rintro e w10 ⟨rfl, b10⟩
  have V_10 := Lib.hid (V_9.out.below b10)
  clear V_9
  have U_10 := Lib.hid (U_9.out.below b10)
  clear U_9
  have V'_10 := Lib.hid (V'_9.out.below b10)
  clear V'_9
  have U'_10 := Lib.hid (U'_9.out.below b10)
  clear U'_9
  have LL_10 := Lib.hid (LL_9.out.below b10)
  clear LL_9
  have M1_10 := Lib.hid (row_below M1_9.out b10)
  clear M1_9
  have M2_10 := Lib.hid (row_below M2.out b10)
  clear M2
  have KT_10 := Lib.hid (KT_9.out.below b10 KT_9.out.lt)
  clear KT_9
  have KO_10 := Lib.hid (KO_9.out.below b10 KO_9.out.lt)
  clear KO_9
  have B_10 := Lib.hid (B_9.out.trans (b10.mono B_9.out.size))
  clear B_9
  clear b10
  go_wp2
  go_ret
  exact ⟨rfl, B_10.out⟩

theorem law_makes (a b a' b' l : List ByteArray) (v u v' u' t : Value) (w : World) (hv : Lst stc w v a) (hu : Lst stc w u b) (hv' : Lst stc w v' a') (hu' : Lst stc w u' b') (ht : Lst stc w t l) (hc : CapFine v) (hc' : CapFine u) (hc2 : CapFine v') (hc3 : CapFine u') (hn : NilFine v) (hn' : NilFine u) :
    Calls Try.prog 4 #[.agg #[v, u], .agg #[v', u'], t] w fun e w' => e = .returned (.bool true) ∧ Below w.heap.size w w' := by
  by_cases h1 : (fewB a 210 && fewB b 210) = true
  · by_cases h2 : (fewB a' 210 && fewB b' 210) = true
    · by_cases h3 : fewB l 30 = true
      · by_cases h0 : checkF a b = 0
        · exact makes_ok a b a' b' l v u v' u' t w hv hu hv' hu' ht hc hc' hc2 hc3 hn hn' h1 h2 h3 h0
        · exact makes_bad a b a' b' l v u v' u' t w hv hu hv' hu' ht hc hc' hc2 hc3 hn hn' h1 h2 h3 h0
      · exact makes_no3 a b a' b' l v u v' u' t w hv hu hv' hu' ht h1 h2 (by simpa using h3)
    · exact makes_no2 a b a' b' l v u v' u' t w hv hu hv' hu' ht h1 (by simpa using h2)
  · exact makes_no1 a b a' b' l v u v' u' t w hv hu hv' hu' ht (by simpa using h1)
end Go.Proofs.Ytadodccciejghaa
