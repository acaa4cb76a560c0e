/- TableMaps: where names go. -/
import Derived.Test.YtadodccciejghaaBackLaw
import Derived.Test.YtadodccciejghaaReg
namespace Go.Proofs.Ytadodccciejghaa
open Go.RowKit
attribute [local go_sem] Oper.semAt_some
set_option maxRecDepth 100000
set_option maxHeartbeats 2000000

theorem has_ex (l : List ByteArray) (v : Value) (s : ByteArray) (q : Bool) (w : World) (hl : l.length ≤ 210) (ht : Lst stc w v l) (hq : usedB l s = q) :
    Calls Try.prog 33 #[v, .string s] w fun e w' => e = .returned (.bool q) ∧ Below w.heap.size w w' := by
  subst hq
  exact (has_any l v s w (by omega) ht).mono fun e w' ⟨h1, h2⟩ => ⟨h1, h2 ▸ Below.refl _ _⟩
theorem mapL_mem (a b : List ByteArray) : ∀ (l m : List ByteArray), mapL a b l = some m → ∀ y ∈ m, y ∈ b
  | [], m, h, y, hy => by simp [mapL] at h; subst h; simp at hy
  | s :: l, m, h, y, hy => by
    rw [mapL] at h
    split at h
    · rename_i z hz
      obtain ⟨m', h1, rfl⟩ := Option.map_eq_some_iff.1 h
      rcases List.mem_cons.1 hy with rfl | hy
      · exact (goL_mem a b s _ hz).2
      · exact mapL_mem a b l m' h1 y hy
    · cases h
theorem all_used {a b l : List ByteArray} (h0 : checkF a b = 0) : (l.all fun s => usedB a s) = (mapL a b l).isSome := by
  have h := mapL_all a b ((check_ok a b).1 h0).2.1 l
  rw [Bool.eq_iff_iff, h, List.all_eq_true]
  exact ⟨fun h s hs => (usedB_iff a s).1 (h s hs), fun h s hs => (usedB_iff a s).2 (h s hs)⟩
theorem take_all_no {l : List ByteArray} {f : ByteArray → Bool} {k : Nat} (h : false = (l.take k).all f) : false = (l.take (k + 1)).all f := by
  rw [List.take_add_one, List.all_append, ← h]
  rfl
theorem take_all_yes {l : List ByteArray} {f : ByteArray → Bool} {k : Nat} {x : ByteArray} {r : Bool} (h : true = (l.take k).all f) (hx : l[k]? = some x) (hr : f x = r) : r = (l.take (k + 1)).all f := by
  rw [List.take_add_one, List.all_append, ← h, hx]
  simp [hr]

theorem maps_no1 (a b l : List ByteArray) (v u t : Value) (w : World) (hv : Lst stc w v a) (hu : Lst stc w u b) (ht : Lst stc w t l) (h1 : (fewB a 210 && fewB b 210) = false) :
    Calls Try.prog 7 #[.agg #[v, u], t] w fun e w' => e = .returned (.bool true) ∧ Below w.heap.size w w' := by
  have H1 := Lib.hid h1
  clear h1
  have HV := Lib.hid hv
  have HU := Lib.hid hu
  have HL := Lib.hid ht
  obtain ⟨va, vc, rfl⟩ := hv.slice
  obtain ⟨ua, uc, rfl⟩ := hu.slice
  obtain ⟨ta, tc, rfl⟩ := ht.slice
  clear hv hu ht
  go_enter Try.func7, Try.ntmps7
  go_wp2_with fail
  have a1 : Below w.heap.size w (w.alloc (.cells #[.slice va a.length vc, .slice ua b.length uc] 24)) := ((Below.refl w.heap.size w).alloc (by first | exact Nat.le_refl _ | (simp only [World.size_alloc]; omega)) (.cells #[.slice va a.length vc, .slice ua b.length uc] 24))
  have T_new0 := (Blk.new w #[.slice va a.length vc, .slice ua b.length uc] 24)
  have KT_00 := Lib.hid T_new0
  clear T_new0
  have V_1 := Lib.hid (HV.out.below a1)
  clear HV
  have U_1 := Lib.hid (HU.out.below a1)
  clear HU
  have LL_1 := Lib.hid (HL.out.below a1)
  clear HL
  have B_1 := Lib.hid a1
  clear a1
  generalize (w.alloc (.cells #[.slice va a.length vc, .slice ua b.length uc] 24)) = w1 at V_1 U_1 LL_1 KT_00 B_1 ⊢
  refine (works_any _).mono ?_
  rintro e w2 ⟨rfl, b2⟩
  have V_2 := Lib.hid (V_1.out.below b2)
  clear V_1
  have U_2 := Lib.hid (U_1.out.below b2)
  clear U_1
  have LL_2 := Lib.hid (LL_1.out.below b2)
  clear LL_1
  have KT_2 := Lib.hid (KT_00.out.below b2 KT_00.out.lt)
  clear KT_00
  have B_2 := Lib.hid (B_1.out.trans (b2.mono B_1.out.size))
  clear B_1
  clear b2
  have lT_2 : w.heap.size < w2.heap.size := KT_2.out.lt
  have cT_0_2 : w2.cell? ⟨w.heap.size, 0, none⟩ = some (.slice va a.length vc) := KT_2.out.cell 0
  have cT_1_2 : w2.cell? ⟨w.heap.size, 1, none⟩ = some (.slice ua b.length uc) := KT_2.out.cell 1
  go_wp2_with fail
  clear lT_2 cT_0_2 cT_1_2
  refine (few_ex a b _ _ false _ V_2.out U_2.out H1.out).mono ?_
  rintro e w3 ⟨rfl, b3⟩
  have V_3 := Lib.hid (V_2.out.below b3)
  clear V_2
  have U_3 := Lib.hid (U_2.out.below b3)
  clear U_2
  have LL_3 := Lib.hid (LL_2.out.below b3)
  clear LL_2
  have KT_3 := Lib.hid (KT_2.out.below b3 KT_2.out.lt)
  clear KT_2
  have B_3 := Lib.hid (B_2.out.trans (b3.mono B_2.out.size))
  clear B_2
  clear b3
  go_wp2
  go_ret
  exact ⟨rfl, B_3.out⟩

theorem maps_no2 (a b l : List ByteArray) (v u t : Value) (w : World) (hv : Lst stc w v a) (hu : Lst stc w u b) (ht : Lst stc w t l) (h1 : (fewB a 210 && fewB b 210) = true) (h3 : fewB l 30 = false) :
    Calls Try.prog 7 #[.agg #[v, u], t] w fun e w' => e = .returned (.bool true) ∧ Below w.heap.size w w' := by
  have H1 := Lib.hid h1
  have H3 := Lib.hid h3
  clear h1 h3
  have HV := Lib.hid hv
  have HU := Lib.hid hu
  have HL := Lib.hid ht
  obtain ⟨va, vc, rfl⟩ := hv.slice
  obtain ⟨ua, uc, rfl⟩ := hu.slice
  obtain ⟨ta, tc, rfl⟩ := ht.slice
  clear hv hu ht
  go_enter Try.func7, Try.ntmps7
  go_wp2_with fail
  have a1 : Below w.heap.size w (w.alloc (.cells #[.slice va a.length vc, .slice ua b.length uc] 24)) := ((Below.refl w.heap.size w).alloc (by first | exact Nat.le_refl _ | (simp only [World.size_alloc]; omega)) (.cells #[.slice va a.length vc, .slice ua b.length uc] 24))
  have T_new0 := (Blk.new w #[.slice va a.length vc, .slice ua b.length uc] 24)
  have KT_00 := Lib.hid T_new0
  clear T_new0
  have V_1 := Lib.hid (HV.out.below a1)
  clear HV
  have U_1 := Lib.hid (HU.out.below a1)
  clear HU
  have LL_1 := Lib.hid (HL.out.below a1)
  clear HL
  have B_1 := Lib.hid a1
  clear a1
  generalize (w.alloc (.cells #[.slice va a.length vc, .slice ua b.length uc] 24)) = w1 at V_1 U_1 LL_1 KT_00 B_1 ⊢
  refine (works_any _).mono ?_
  rintro e w2 ⟨rfl, b2⟩
  have V_2 := Lib.hid (V_1.out.below b2)
  clear V_1
  have U_2 := Lib.hid (U_1.out.below b2)
  clear U_1
  have LL_2 := Lib.hid (LL_1.out.below b2)
  clear LL_1
  have KT_2 := Lib.hid (KT_00.out.below b2 KT_00.out.lt)
  clear KT_00
  have B_2 := Lib.hid (B_1.out.trans (b2.mono B_1.out.size))
  clear B_1
  clear b2
  have lT_2 : w.heap.size < w2.heap.size := KT_2.out.lt
  have cT_0_2 : w2.cell? ⟨w.heap.size, 0, none⟩ = some (.slice va a.length vc) := KT_2.out.cell 0
  have cT_1_2 : w2.cell? ⟨w.heap.size, 1, none⟩ = some (.slice ua b.length uc) := KT_2.out.cell 1
  go_wp2_with fail
  clear lT_2 cT_0_2 cT_1_2
  refine (few_ex a b _ _ true _ V_2.out U_2.out H1.out).mono ?_
  rintro e w3 ⟨rfl, b3⟩
  have V_3 := Lib.hid (V_2.out.below b3)
  clear V_2
  have U_3 := Lib.hid (U_2.out.below b3)
  clear U_2
  have LL_3 := Lib.hid (LL_2.out.below b3)
  clear LL_2
  have KT_3 := Lib.hid (KT_2.out.below b3 KT_2.out.lt)
  clear KT_2
  have B_3 := Lib.hid (B_2.out.trans (b3.mono B_2.out.size))
  clear B_2
  clear b3
  go_wp2_with fail
  refine (few30_ex l _ false _ LL_3.out H3.out).mono ?_
  rintro e w' ⟨rfl, rfl⟩
  go_wp2
  go_ret
  exact ⟨rfl, B_3.out⟩

theorem maps_no3 (a b l : List ByteArray) (v u t : Value) (w : World) (hv : Lst stc w v a) (hu : Lst stc w u b) (ht : Lst stc w t l) (h1 : (fewB a 210 && fewB b 210) = true) (h3 : fewB l 30 = true) (h0 : ¬ checkF a b = 0) :
    Calls Try.prog 7 #[.agg #[v, u], t] w fun e w' => e = .returned (.bool true) ∧ Below w.heap.size w w' := by
  obtain ⟨f1, f2⟩ := Bool.and_eq_true_iff.1 h1
  obtain ⟨la, za⟩ := few_of f1
  obtain ⟨lb, zb⟩ := few_of f2
  obtain ⟨ll, zl⟩ := few_of h3
  clear f1 f2
  obtain ⟨q, hq⟩ : ∃ q, checkF a b = q := ⟨_, rfl⟩
  have hne : (q != 0) = true := by rw [bne_iff_ne, ← hq]; exact h0
  clear h0 la lb zl ll
  have H1 := Lib.hid h1
  have H3 := Lib.hid h3
  have ZA := Lib.hid za
  have ZB := Lib.hid zb
  have HQ := Lib.hid hq
  clear h1 h3 za zb hq
  have HV := Lib.hid hv
  have HU := Lib.hid hu
  have HL := Lib.hid ht
  obtain ⟨va, vc, rfl⟩ := hv.slice
  obtain ⟨ua, uc, rfl⟩ := hu.slice
  obtain ⟨ta, tc, rfl⟩ := ht.slice
  clear hv hu ht
  go_enter Try.func7, Try.ntmps7
  go_wp2_with fail
  have a1 : Below w.heap.size w (w.alloc (.cells #[.slice va a.length vc, .slice ua b.length uc] 24)) := ((Below.refl w.heap.size w).alloc (by first | exact Nat.le_refl _ | (simp only [World.size_alloc]; omega)) (.cells #[.slice va a.length vc, .slice ua b.length uc] 24))
  have T_new0 := (Blk.new w #[.slice va a.length vc, .slice ua b.length uc] 24)
  have KT_00 := Lib.hid T_new0
  clear T_new0
  have V_1 := Lib.hid (HV.out.below a1)
  clear HV
  have U_1 := Lib.hid (HU.out.below a1)
  clear HU
  have LL_1 := Lib.hid (HL.out.below a1)
  clear HL
  have B_1 := Lib.hid a1
  clear a1
  generalize (w.alloc (.cells #[.slice va a.length vc, .slice ua b.length uc] 24)) = w1 at V_1 U_1 LL_1 KT_00 B_1 ⊢
  refine (works_any _).mono ?_
  rintro e w2 ⟨rfl, b2⟩
  have V_2 := Lib.hid (V_1.out.below b2)
  clear V_1
  have U_2 := Lib.hid (U_1.out.below b2)
  clear U_1
  have LL_2 := Lib.hid (LL_1.out.below b2)
  clear LL_1
  have KT_2 := Lib.hid (KT_00.out.below b2 KT_00.out.lt)
  clear KT_00
  have B_2 := Lib.hid (B_1.out.trans (b2.mono B_1.out.size))
  clear B_1
  clear b2
  have lT_2 : w.heap.size < w2.heap.size := KT_2.out.lt
  have cT_0_2 : w2.cell? ⟨w.heap.size, 0, none⟩ = some (.slice va a.length vc) := KT_2.out.cell 0
  have cT_1_2 : w2.cell? ⟨w.heap.size, 1, none⟩ = some (.slice ua b.length uc) := KT_2.out.cell 1
  go_wp2_with fail
  clear lT_2 cT_0_2 cT_1_2
  refine (few_ex a b _ _ true _ V_2.out U_2.out H1.out).mono ?_
  rintro e w3 ⟨rfl, b3⟩
  have V_3 := Lib.hid (V_2.out.below b3)
  clear V_2
  have U_3 := Lib.hid (U_2.out.below b3)
  clear U_2
  have LL_3 := Lib.hid (LL_2.out.below b3)
  clear LL_2
  have KT_3 := Lib.hid (KT_2.out.below b3 KT_2.out.lt)
  clear KT_2
  have B_3 := Lib.hid (B_2.out.trans (b3.mono B_2.out.size))
  clear B_2
  clear b3
  go_wp2_with fail
  refine (few30_ex l _ true _ LL_3.out H3.out).mono ?_
  rintro e w' ⟨rfl, rfl⟩
  have lT_3 : w.heap.size < w3.heap.size := KT_3.out.lt
  have cT_0_3 : w3.cell? ⟨w.heap.size, 0, none⟩ = some (.slice va a.length vc) := KT_3.out.cell 0
  have cT_1_3 : w3.cell? ⟨w.heap.size, 1, none⟩ = some (.slice ua b.length uc) := KT_3.out.cell 1
  go_wp2_with fail
  clear lT_3 cT_0_3 cT_1_3
  refine (check_ex a b _ _ q _ V_3.out U_3.out ZA.out ZB.out HQ.out).mono ?_
  rintro e w4 ⟨rfl, b4⟩
  have V_4 := Lib.hid (V_3.out.below b4)
  clear V_3
  have U_4 := Lib.hid (U_3.out.below b4)
  clear U_3
  have LL_4 := Lib.hid (LL_3.out.below b4)
  clear LL_3
  have KT_4 := Lib.hid (KT_3.out.below b4 KT_3.out.lt)
  clear KT_3
  have B_4 := Lib.hid (B_3.out.trans (b4.mono B_3.out.size))
  clear B_3
  clear b4
  go_wp2
  go_ret
  exact ⟨rfl, B_4.out⟩

theorem maps_none (a b l : List ByteArray) (v u t : Value) (w : World) (hv : Lst stc w v a) (hu : Lst stc w u b) (ht : Lst stc w t l) (h1 : (fewB a 210 && fewB b 210) = true) (h3 : fewB l 30 = true) (h0 : checkF a b = 0) (hm : mapL a b l = none) :
    Calls Try.prog 7 #[.agg #[v, u], t] w fun e w' => e = .returned (.bool true) ∧ Below w.heap.size w w' := by
  obtain ⟨f1, f2⟩ := Bool.and_eq_true_iff.1 h1
  obtain ⟨la, za⟩ := few_of f1
  obtain ⟨lb, zb⟩ := few_of f2
  obtain ⟨ll, zl⟩ := few_of h3
  clear f1 f2
  have hau := all_used (l := l) h0
  rw [hm] at hau
  have hmr : mapR a b l = [] := by unfold mapR; rw [if_pos h0, hm]; rfl
  have hme : mapE a b l = 12 := by unfold mapE; rw [if_pos h0, hm]
  have H1 := Lib.hid h1
  have H3 := Lib.hid h3
  have ZA := Lib.hid za
  have ZB := Lib.hid zb
  have ZL := Lib.hid zl
  have H0 := Lib.hid h0
  have HAU := Lib.hid hau
  have HMR := Lib.hid hmr
  have HME := Lib.hid hme
  clear h1 h3 za zb zl h0 hau hmr hme
  clear hm
  have HV := Lib.hid hv
  have HU := Lib.hid hu
  have HL := Lib.hid ht
  obtain ⟨va, vc, rfl⟩ := hv.slice
  obtain ⟨ua, uc, rfl⟩ := hu.slice
  obtain ⟨ta, tc, rfl⟩ := ht.slice
  clear hv hu ht
  go_enter Try.func7, Try.ntmps7
  go_wp2_with fail
  have a1 : Below w.heap.size w (w.alloc (.cells #[.slice va a.length vc, .slice ua b.length uc] 24)) := ((Below.refl w.heap.size w).alloc (by first | exact Nat.le_refl _ | (simp only [World.size_alloc]; omega)) (.cells #[.slice va a.length vc, .slice ua b.length uc] 24))
  have T_new0 := (Blk.new w #[.slice va a.length vc, .slice ua b.length uc] 24)
  have KT_00 := Lib.hid T_new0
  clear T_new0
  have V_1 := Lib.hid (HV.out.below a1)
  clear HV
  have U_1 := Lib.hid (HU.out.below a1)
  clear HU
  have LL_1 := Lib.hid (HL.out.below a1)
  clear HL
  have B_1 := Lib.hid a1
  clear a1
  generalize (w.alloc (.cells #[.slice va a.length vc, .slice ua b.length uc] 24)) = w1 at V_1 U_1 LL_1 KT_00 B_1 ⊢
  refine (works_any _).mono ?_
  rintro e w2 ⟨rfl, b2⟩
  have V_2 := Lib.hid (V_1.out.below b2)
  clear V_1
  have U_2 := Lib.hid (U_1.out.below b2)
  clear U_1
  have LL_2 := Lib.hid (LL_1.out.below b2)
  clear LL_1
  have KT_2 := Lib.hid (KT_00.out.below b2 KT_00.out.lt)
  clear KT_00
  have B_2 := Lib.hid (B_1.out.trans (b2.mono B_1.out.size))
  clear B_1
  clear b2
  have lT_2 : w.heap.size < w2.heap.size := KT_2.out.lt
  have cT_0_2 : w2.cell? ⟨w.heap.size, 0, none⟩ = some (.slice va a.length vc) := KT_2.out.cell 0
  have cT_1_2 : w2.cell? ⟨w.heap.size, 1, none⟩ = some (.slice ua b.length uc) := KT_2.out.cell 1
  go_wp2_with fail
  clear lT_2 cT_0_2 cT_1_2
  refine (few_ex a b _ _ true _ V_2.out U_2.out H1.out).mono ?_
  rintro e w3 ⟨rfl, b3⟩
  have V_3 := Lib.hid (V_2.out.below b3)
  clear V_2
  have U_3 := Lib.hid (U_2.out.below b3)
  clear U_2
  have LL_3 := Lib.hid (LL_2.out.below b3)
  clear LL_2
  have KT_3 := Lib.hid (KT_2.out.below b3 KT_2.out.lt)
  clear KT_2
  have B_3 := Lib.hid (B_2.out.trans (b3.mono B_2.out.size))
  clear B_2
  clear b3
  go_wp2_with fail
  refine (few30_ex l _ true _ LL_3.out H3.out).mono ?_
  rintro e w' ⟨rfl, rfl⟩
  have lT_3 : w.heap.size < w3.heap.size := KT_3.out.lt
  have cT_0_3 : w3.cell? ⟨w.heap.size, 0, none⟩ = some (.slice va a.length vc) := KT_3.out.cell 0
  have cT_1_3 : w3.cell? ⟨w.heap.size, 1, none⟩ = some (.slice ua b.length uc) := KT_3.out.cell 1
  go_wp2_with fail
  clear lT_3 cT_0_3 cT_1_3
  refine (check_ex a b _ _ 0 _ V_3.out U_3.out ZA.out ZB.out H0.out).mono ?_
  rintro e w4 ⟨rfl, b4⟩
  have V_4 := Lib.hid (V_3.out.below b4)
  clear V_3
  have U_4 := Lib.hid (U_3.out.below b4)
  clear U_3
  have LL_4 := Lib.hid (LL_3.out.below b4)
  clear LL_3
  have KT_4 := Lib.hid (KT_3.out.below b4 KT_3.out.lt)
  clear KT_3
  have B_4 := Lib.hid (B_3.out.trans (b4.mono B_3.out.size))
  clear B_3
  clear b4
  go_wp2
  go_loopw [7, 8] (fun al i wr => ∃ (k : Nat) (q : Bool), k ≤ l.length ∧ i = .int .i64 (k : Int) ∧ al = .bool q ∧ Hid (q = (l.take k).all fun s => usedB a s) ∧ Below w4.heap.size w4 wr) (fun _ i _ => l.length - (intOf i).toNat)
  case atStart => exact ⟨0, true, by omega, rfl, rfl, Lib.hid (by simp), Below.refl _ _⟩
  case round =>
    obtain ⟨k, q, hk, rfl, rfl, hq, hB⟩ := hrel
    have V_r := Lib.hid (V_4.out.below hB)
    clear V_4
    have U_r := Lib.hid (U_4.out.below hB)
    clear U_4
    have LL_r := Lib.hid (LL_4.out.below hB)
    clear LL_4
    have KT_r := Lib.hid (KT_4.out.below hB KT_4.out.lt)
    clear KT_4
    have B_r := Lib.hid (B_4.out.trans (hB.mono B_4.out.size))
    have HBR := Lib.hid hB
    clear hB B_4
    by_cases hlt : k < l.length
    · cases q
      · obtain ⟨g, o, cc, x, hx, hv, hg, hc⟩ := LL_r.out.at_ stc_len hlt
        injection hv with e1 e2 e3
        subst e1 e3
        clear e2
        have d0 : wr.cell? ⟨g, o + k, none⟩ = some (.string x) := by have := hc 0 (by omega); simpa [stc] using this
        have hlt' : (k : Int) < (l.length : Int) := by omega
        have HN := Lib.hid (take_all_no hq.out)
        clear hx hc hq
        have hs0 : wr.heap.size ≤ wr.heap.size := Nat.le_refl _
        have lT_0 : w.heap.size < wr.heap.size := KT_r.out.lt
        have cT_0_0 : wr.cell? ⟨w.heap.size, 0, none⟩ = some (.slice va a.length vc) := KT_r.out.cell 0
        have cT_1_0 : wr.cell? ⟨w.heap.size, 1, none⟩ = some (.slice ua b.length uc) := KT_r.out.cell 1
        go_wp2_with fail
        clear lT_0 cT_0_0 cT_1_0
        have HS1 : Hid (∀ X : World, Below wr.heap.size wr X → X.cell? ⟨w.heap.size, 0, none⟩ = some (.slice va a.length vc) ∧ X.cell? ⟨w.heap.size, 1, none⟩ = some (.slice ua b.length uc) ∧ Below wr.heap.size wr X) := Lib.hid fun X h => ⟨(h.cell (p := ⟨w.heap.size, 0, none⟩) KT_r.out.lt).trans (KT_r.out.cell 0), (h.cell (p := ⟨w.heap.size, 1, none⟩) KT_r.out.lt).trans (KT_r.out.cell 1), h⟩
        refine wp_region_held_drew (S := fun X => X.cell? ⟨w.heap.size, 0, none⟩ = some (.slice va a.length vc) ∧ X.cell? ⟨w.heap.size, 1, none⟩ = some (.slice ua b.length uc) ∧ Below wr.heap.size wr X) (by kernel_rfl) (HS1.out _ (Below.refl _ _).drew) (fun hHeld => ?_)
        try (first | (refine take_yes (i := 0) (v := ?_) rfl (by kernel_rfl) (by decide +kernel) (by decide +kernel) (fun _ _ _ h => h) (by rfl) ?_ (by assumption) ?_; rotate_left; intro w hSw; (try dsimp only at hSw); go_simp; with_reducible rfl; simp only [Act.put, List.setIfInBounds_toArray, List.set_cons_zero, List.set_cons_succ]) | (refine take_no (i := 0) rfl (by kernel_rfl) (by decide +kernel) (by decide +kernel) (fun _ _ _ h => h) (by rfl) (by assumption) ?_; simp only [Act.put, List.setIfInBounds_toArray, List.set_cons_zero, List.set_cons_succ]))
        try (first | (refine take_yes (i := 1) (v := ?_) rfl (by kernel_rfl) (by decide +kernel) (by decide +kernel) (fun _ _ _ h => h) (by rfl) ?_ (by assumption) ?_; rotate_left; intro w hSw; (try dsimp only at hSw); go_simp; with_reducible rfl; simp only [Act.put, List.setIfInBounds_toArray, List.set_cons_zero, List.set_cons_succ]) | (refine take_no (i := 1) rfl (by kernel_rfl) (by decide +kernel) (by decide +kernel) (fun _ _ _ h => h) (by rfl) (by assumption) ?_; simp only [Act.put, List.setIfInBounds_toArray, List.set_cons_zero, List.set_cons_succ]))
        try (first | (refine take_yes (i := 2) (v := ?_) rfl (by kernel_rfl) (by decide +kernel) (by decide +kernel) (fun _ _ _ h => h) (by rfl) ?_ (by assumption) ?_; rotate_left; intro w hSw; (try dsimp only at hSw); go_simp; with_reducible rfl; simp only [Act.put, List.setIfInBounds_toArray, List.set_cons_zero, List.set_cons_succ]) | (refine take_no (i := 2) rfl (by kernel_rfl) (by decide +kernel) (by decide +kernel) (fun _ _ _ h => h) (by rfl) (by assumption) ?_; simp only [Act.put, List.setIfInBounds_toArray, List.set_cons_zero, List.set_cons_succ]))
        try (first | (refine take_yes (i := 3) (v := ?_) rfl (by kernel_rfl) (by decide +kernel) (by decide +kernel) (fun _ _ _ h => h) (by rfl) ?_ (by assumption) ?_; rotate_left; intro w hSw; (try dsimp only at hSw); go_simp; with_reducible rfl; simp only [Act.put, List.setIfInBounds_toArray, List.set_cons_zero, List.set_cons_succ]) | (refine take_no (i := 3) rfl (by kernel_rfl) (by decide +kernel) (by decide +kernel) (fun _ _ _ h => h) (by rfl) (by assumption) ?_; simp only [Act.put, List.setIfInBounds_toArray, List.set_cons_zero, List.set_cons_succ]))
        try (first | (refine take_yes (i := 4) (v := ?_) rfl (by kernel_rfl) (by decide +kernel) (by decide +kernel) (fun _ _ _ h => h) (by rfl) ?_ (by assumption) ?_; rotate_left; intro w hSw; (try dsimp only at hSw); go_simp; with_reducible rfl; simp only [Act.put, List.setIfInBounds_toArray, List.set_cons_zero, List.set_cons_succ]) | (refine take_no (i := 4) rfl (by kernel_rfl) (by decide +kernel) (by decide +kernel) (fun _ _ _ h => h) (by rfl) (by assumption) ?_; simp only [Act.put, List.setIfInBounds_toArray, List.set_cons_zero, List.set_cons_succ]))
        try (first | (refine take_yes (i := 5) (v := ?_) rfl (by kernel_rfl) (by decide +kernel) (by decide +kernel) (fun _ _ _ h => h) (by rfl) ?_ (by assumption) ?_; rotate_left; intro w hSw; (try dsimp only at hSw); go_simp; with_reducible rfl; simp only [Act.put, List.setIfInBounds_toArray, List.set_cons_zero, List.set_cons_succ]) | (refine take_no (i := 5) rfl (by kernel_rfl) (by decide +kernel) (by decide +kernel) (fun _ _ _ h => h) (by rfl) (by assumption) ?_; simp only [Act.put, List.setIfInBounds_toArray, List.set_cons_zero, List.set_cons_succ]))
        try (first | (refine take_yes (i := 6) (v := ?_) rfl (by kernel_rfl) (by decide +kernel) (by decide +kernel) (fun _ _ _ h => h) (by rfl) ?_ (by assumption) ?_; rotate_left; intro w hSw; (try dsimp only at hSw); go_simp; with_reducible rfl; simp only [Act.put, List.setIfInBounds_toArray, List.set_cons_zero, List.set_cons_succ]) | (refine take_no (i := 6) rfl (by kernel_rfl) (by decide +kernel) (by decide +kernel) (fun _ _ _ h => h) (by rfl) (by assumption) ?_; simp only [Act.put, List.setIfInBounds_toArray, List.set_cons_zero, List.set_cons_succ]))
        try (first | (refine take_yes (i := 7) (v := ?_) rfl (by kernel_rfl) (by decide +kernel) (by decide +kernel) (fun _ _ _ h => h) (by rfl) ?_ (by assumption) ?_; rotate_left; intro w hSw; (try dsimp only at hSw); go_simp; with_reducible rfl; simp only [Act.put, List.setIfInBounds_toArray, List.set_cons_zero, List.set_cons_succ]) | (refine take_no (i := 7) rfl (by kernel_rfl) (by decide +kernel) (by decide +kernel) (fun _ _ _ h => h) (by rfl) (by assumption) ?_; simp only [Act.put, List.setIfInBounds_toArray, List.set_cons_zero, List.set_cons_succ]))
        try (first | (refine take_yes (i := 8) (v := ?_) rfl (by kernel_rfl) (by decide +kernel) (by decide +kernel) (fun _ _ _ h => h) (by rfl) ?_ (by assumption) ?_; rotate_left; intro w hSw; (try dsimp only at hSw); go_simp; with_reducible rfl; simp only [Act.put, List.setIfInBounds_toArray, List.set_cons_zero, List.set_cons_succ]) | (refine take_no (i := 8) rfl (by kernel_rfl) (by decide +kernel) (by decide +kernel) (fun _ _ _ h => h) (by rfl) (by assumption) ?_; simp only [Act.put, List.setIfInBounds_toArray, List.set_cons_zero, List.set_cons_succ]))
        try (first | (refine take_yes (i := 9) (v := ?_) rfl (by kernel_rfl) (by decide +kernel) (by decide +kernel) (fun _ _ _ h => h) (by rfl) ?_ (by assumption) ?_; rotate_left; intro w hSw; (try dsimp only at hSw); go_simp; with_reducible rfl; simp only [Act.put, List.setIfInBounds_toArray, List.set_cons_zero, List.set_cons_succ]) | (refine take_no (i := 9) rfl (by kernel_rfl) (by decide +kernel) (by decide +kernel) (fun _ _ _ h => h) (by rfl) (by assumption) ?_; simp only [Act.put, List.setIfInBounds_toArray, List.set_cons_zero, List.set_cons_succ]))
        try (first | (refine take_yes (i := 10) (v := ?_) rfl (by kernel_rfl) (by decide +kernel) (by decide +kernel) (fun _ _ _ h => h) (by rfl) ?_ (by assumption) ?_; rotate_left; intro w hSw; (try dsimp only at hSw); go_simp; with_reducible rfl; simp only [Act.put, List.setIfInBounds_toArray, List.set_cons_zero, List.set_cons_succ]) | (refine take_no (i := 10) rfl (by kernel_rfl) (by decide +kernel) (by decide +kernel) (fun _ _ _ h => h) (by rfl) (by assumption) ?_; simp only [Act.put, List.setIfInBounds_toArray, List.set_cons_zero, List.set_cons_succ]))
        refine wpAnyH_done (by decide +kernel) ?_ _
        have b1 : Below wr.heap.size wr wr.drew := (Below.refl _ _).drew
        generalize wr.drew = wr1 at b1 ⊢
        clear HS1
        have V_1 := Lib.hid (V_r.out.below b1)
        clear V_r
        have U_1 := Lib.hid (U_r.out.below b1)
        clear U_r
        have LL_1 := Lib.hid (LL_r.out.below b1)
        clear LL_r
        have KT_1 := Lib.hid (KT_r.out.below b1 KT_r.out.lt)
        clear KT_r
        have B_1 := Lib.hid (HBR.out.trans (b1.mono HBR.out.size))
        clear HBR
        go_wp2
        refine ⟨⟨k + 1, false, by omega, by go_num, rfl, HN, B_1.out⟩, ?_⟩
        simp [intOf]; omega
      · obtain ⟨g, o, cc, x, hx, hv, hg, hc⟩ := LL_r.out.at_ stc_len hlt
        injection hv with e1 e2 e3
        subst e1 e3
        clear e2
        have d0 : wr.cell? ⟨g, o + k, none⟩ = some (.string x) := by have := hc 0 (by omega); simpa [stc] using this
        have hlt' : (k : Int) < (l.length : Int) := by omega
        obtain ⟨r, hr⟩ : ∃ r, usedB a x = r := ⟨_, rfl⟩
        have HN := Lib.hid (take_all_yes (f := fun s => usedB a s) hq.out hx hr)
        have HR := Lib.hid hr
        clear hx hc hr hq
        have hs0 : wr.heap.size ≤ wr.heap.size := Nat.le_refl _
        have lT_0 : w.heap.size < wr.heap.size := KT_r.out.lt
        have cT_0_0 : wr.cell? ⟨w.heap.size, 0, none⟩ = some (.slice va a.length vc) := KT_r.out.cell 0
        have cT_1_0 : wr.cell? ⟨w.heap.size, 1, none⟩ = some (.slice ua b.length uc) := KT_r.out.cell 1
        go_wp2_with fail
        clear lT_0 cT_0_0 cT_1_0
        have hd1 : Below wr.heap.size wr wr.drew := (Below.refl _ _).drew
        have HS1 : Hid (∀ X : World, Below wr.heap.size wr X → X.cell? ⟨w.heap.size, 0, none⟩ = some (.slice va a.length vc) ∧ X.cell? ⟨w.heap.size, 1, none⟩ = some (.slice ua b.length uc) ∧ X.cell? ⟨g, o + k, none⟩ = some (.string x)) := Lib.hid fun X h => ⟨(h.cell (p := ⟨w.heap.size, 0, none⟩) KT_r.out.lt).trans (KT_r.out.cell 0), (h.cell (p := ⟨w.heap.size, 1, none⟩) KT_r.out.lt).trans (KT_r.out.cell 1), (h.cell (p := ⟨g, o + k, none⟩) hg).trans d0⟩
        obtain ⟨x1_0, x1_1, x1_2⟩ := HS1.out _ hd1
        first | go_loud (go_region_held3 (fun X => X.cell? ⟨w.heap.size, 0, none⟩ = some (.slice va a.length vc) ∧ X.cell? ⟨w.heap.size, 1, none⟩ = some (.slice ua b.length uc) ∧ X.cell? ⟨g, o + k, none⟩ = some (.string x) ∧ Below wr.heap.size wr X) (go_keep)
          (first | (go_at_call 33; (with_reducible refine (has_ex a _ x r _ la (V_r.out.below (by assumption)) HR.out).mono ?_); rintro e wr1 ⟨rfl, hb⟩; have rB1 := chain (a := wr) hb (by assumption); obtain ⟨x1_0, x1_1, x1_2⟩ := HS1.out _ rB1; clear hb))) | fail
        have b1 : Below wr.heap.size wr wr1 := by assumption
        clear HS1
        have V_1 := Lib.hid (V_r.out.below b1)
        clear V_r
        have U_1 := Lib.hid (U_r.out.below b1)
        clear U_r
        have LL_1 := Lib.hid (LL_r.out.below b1)
        clear LL_r
        have KT_1 := Lib.hid (KT_r.out.below b1 KT_r.out.lt)
        clear KT_r
        have B_1 := Lib.hid (HBR.out.trans (b1.mono HBR.out.size))
        clear HBR
        go_wp2
        refine ⟨⟨k + 1, r, by omega, by go_num, rfl, HN, B_1.out⟩, ?_⟩
        simp [intOf]; omega
    · have hge : (l.length : Int) ≤ (k : Int) := by omega
      have hq2 := hq.out
      rw [List.take_of_length_le (by omega), HAU.out] at hq2
      subst hq2
      clear hq HAU HBR
      have lT_20 : w.heap.size < wr.heap.size := KT_r.out.lt
      have cT_0_20 : wr.cell? ⟨w.heap.size, 0, none⟩ = some (.slice va a.length vc) := KT_r.out.cell 0
      have cT_1_20 : wr.cell? ⟨w.heap.size, 1, none⟩ = some (.slice ua b.length uc) := KT_r.out.cell 1
      go_wp2_with fail
      clear lT_20 cT_0_20 cT_1_20
      refine (map_ex a b l _ _ _ [] 12 _ V_r.out U_r.out LL_r.out ZA.out ZB.out ZL.out (by omega) HMR.out HME.out).mono ?_
      rintro e w21 ⟨V1, rfl, r1, b21⟩
      have V_21 := Lib.hid (V_r.out.below b21)
      clear V_r
      have U_21 := Lib.hid (U_r.out.below b21)
      clear U_r
      have LL_21 := Lib.hid (LL_r.out.below b21)
      clear LL_r
      have KT_21 := Lib.hid (KT_r.out.below b21 KT_r.out.lt)
      clear KT_r
      have B_21 := Lib.hid (B_r.out.trans (b21.mono B_r.out.size))
      clear B_r
      clear b21
      change World.ownsRow _ _ 9 1 V1 0 _ at r1
      obtain ⟨xa, xc, rfl⟩ := row_slice r1
      clear r1
      go_wp2
      go_ret
      exact ⟨rfl, B_21.out⟩

theorem maps_some (a b l : List ByteArray) (v u t : Value) (w : World) (hv : Lst stc w v a) (hu : Lst stc w u b) (ht : Lst stc w t l) (hn : NilFine v) (hn' : NilFine u) (h1 : (fewB a 210 && fewB b 210) = true) (h3 : fewB l 30 = true) (h0 : checkF a b = 0) (m : List ByteArray) (hm : mapL a b l = some m) :
    Calls Try.prog 7 #[.agg #[v, u], t] w fun e w' => e = .returned (.bool true) ∧ Below w.heap.size w w' := by
  obtain ⟨f1, f2⟩ := Bool.and_eq_true_iff.1 h1
  obtain ⟨la, za⟩ := few_of f1
  obtain ⟨lb, zb⟩ := few_of f2
  obtain ⟨ll, zl⟩ := few_of h3
  clear f1 f2
  have hau := all_used (l := l) h0
  rw [hm] at hau
  have hml := mapL_len a b l m hm
  have zm : ∀ y ∈ m, y.size ≤ 60 := fun y hy => zb y (mapL_mem a b l m hm y hy)
  have hmr : mapR a b l = m := by unfold mapR; rw [if_pos h0, hm]; rfl
  have hme : mapE a b l = 0 := by unfold mapE; rw [if_pos h0, hm]
  have h0t := check_turn.1 h0
  have hbk := mapL_back a b ((check_ok a b).1 h0).2.2.2.2.2 l m hm
  have hmr2 : mapR b a m = l := by unfold mapR; rw [if_pos h0t, hbk]; rfl
  have hme2 : mapE b a m = 0 := by unfold mapE; rw [if_pos h0t, hbk]
  clear hbk
  have H1 := Lib.hid h1
  have H3 := Lib.hid h3
  have ZA := Lib.hid za
  have ZB := Lib.hid zb
  have ZL := Lib.hid zl
  have H0 := Lib.hid h0
  have HAU := Lib.hid hau
  have ZM := Lib.hid zm
  have HMR := Lib.hid hmr
  have HME := Lib.hid hme
  have H0T := Lib.hid h0t
  have HMR2 := Lib.hid hmr2
  have HME2 := Lib.hid hme2
  have HN := Lib.hid hn
  have HN' := Lib.hid hn'
  have HML := Lib.hid hml
  clear h1 h3 za zb zl h0 hau zm hmr hme h0t hmr2 hme2 hn hn' hml
  clear hm
  have HV := Lib.hid hv
  have HU := Lib.hid hu
  have HL := Lib.hid ht
  obtain ⟨va, vc, rfl⟩ := hv.slice
  obtain ⟨ua, uc, rfl⟩ := hu.slice
  obtain ⟨ta, tc, rfl⟩ := ht.slice
  clear hv hu ht
  go_enter Try.func7, Try.ntmps7
  go_wp2_with fail
  have a1 : Below w.heap.size w (w.alloc (.cells #[.slice va a.length vc, .slice ua b.length uc] 24)) := ((Below.refl w.heap.size w).alloc (by first | exact Nat.le_refl _ | (simp only [World.size_alloc]; omega)) (.cells #[.slice va a.length vc, .slice ua b.length uc] 24))
  have T_new0 := (Blk.new w #[.slice va a.length vc, .slice ua b.length uc] 24)
  have KT_00 := Lib.hid T_new0
  clear T_new0
  have V_1 := Lib.hid (HV.out.below a1)
  clear HV
  have U_1 := Lib.hid (HU.out.below a1)
  clear HU
  have LL_1 := Lib.hid (HL.out.below a1)
  clear HL
  have B_1 := Lib.hid a1
  clear a1
  generalize (w.alloc (.cells #[.slice va a.length vc, .slice ua b.length uc] 24)) = w1 at V_1 U_1 LL_1 KT_00 B_1 ⊢
  refine (works_any _).mono ?_
  rintro e w2 ⟨rfl, b2⟩
  have V_2 := Lib.hid (V_1.out.below b2)
  clear V_1
  have U_2 := Lib.hid (U_1.out.below b2)
  clear U_1
  have LL_2 := Lib.hid (LL_1.out.below b2)
  clear LL_1
  have KT_2 := Lib.hid (KT_00.out.below b2 KT_00.out.lt)
  clear KT_00
  have B_2 := Lib.hid (B_1.out.trans (b2.mono B_1.out.size))
  clear B_1
  clear b2
  have lT_2 : w.heap.size < w2.heap.size := KT_2.out.lt
  have cT_0_2 : w2.cell? ⟨w.heap.size, 0, none⟩ = some (.slice va a.length vc) := KT_2.out.cell 0
  have cT_1_2 : w2.cell? ⟨w.heap.size, 1, none⟩ = some (.slice ua b.length uc) := KT_2.out.cell 1
  go_wp2_with fail
  clear lT_2 cT_0_2 cT_1_2
  refine (few_ex a b _ _ true _ V_2.out U_2.out H1.out).mono ?_
  rintro e w3 ⟨rfl, b3⟩
  have V_3 := Lib.hid (V_2.out.below b3)
  clear V_2
  have U_3 := Lib.hid (U_2.out.below b3)
  clear U_2
  have LL_3 := Lib.hid (LL_2.out.below b3)
  clear LL_2
  have KT_3 := Lib.hid (KT_2.out.below b3 KT_2.out.lt)
  clear KT_2
  have B_3 := Lib.hid (B_2.out.trans (b3.mono B_2.out.size))
  clear B_2
  clear b3
  go_wp2_with fail
  refine (few30_ex l _ true _ LL_3.out H3.out).mono ?_
  rintro e w' ⟨rfl, rfl⟩
  have lT_3 : w.heap.size < w3.heap.size := KT_3.out.lt
  have cT_0_3 : w3.cell? ⟨w.heap.size, 0, none⟩ = some (.slice va a.length vc) := KT_3.out.cell 0
  have cT_1_3 : w3.cell? ⟨w.heap.size, 1, none⟩ = some (.slice ua b.length uc) := KT_3.out.cell 1
  go_wp2_with fail
  clear lT_3 cT_0_3 cT_1_3
  refine (check_ex a b _ _ 0 _ V_3.out U_3.out ZA.out ZB.out H0.out).mono ?_
  rintro e w4 ⟨rfl, b4⟩
  have V_4 := Lib.hid (V_3.out.below b4)
  clear V_3
  have U_4 := Lib.hid (U_3.out.below b4)
  clear U_3
  have LL_4 := Lib.hid (LL_3.out.below b4)
  clear LL_3
  have KT_4 := Lib.hid (KT_3.out.below b4 KT_3.out.lt)
  clear KT_3
  have B_4 := Lib.hid (B_3.out.trans (b4.mono B_3.out.size))
  clear B_3
  clear b4
  go_wp2
  go_loopw [7, 8] (fun al i wr => ∃ (k : Nat) (q : Bool), k ≤ l.length ∧ i = .int .i64 (k : Int) ∧ al = .bool q ∧ Hid (q = (l.take k).all fun s => usedB a s) ∧ Below w4.heap.size w4 wr) (fun _ i _ => l.length - (intOf i).toNat)
  case atStart => exact ⟨0, true, by omega, rfl, rfl, Lib.hid (by simp), Below.refl _ _⟩
  case round =>
    obtain ⟨k, q, hk, rfl, rfl, hq, hB⟩ := hrel
    have V_r := Lib.hid (V_4.out.below hB)
    clear V_4
    have U_r := Lib.hid (U_4.out.below hB)
    clear U_4
    have LL_r := Lib.hid (LL_4.out.below hB)
    clear LL_4
    have KT_r := Lib.hid (KT_4.out.below hB KT_4.out.lt)
    clear KT_4
    have B_r := Lib.hid (B_4.out.trans (hB.mono B_4.out.size))
    have HBR := Lib.hid hB
    clear hB B_4
    by_cases hlt : k < l.length
    · cases q
      · obtain ⟨g, o, cc, x, hx, hv, hg, hc⟩ := LL_r.out.at_ stc_len hlt
        injection hv with e1 e2 e3
        subst e1 e3
        clear e2
        have d0 : wr.cell? ⟨g, o + k, none⟩ = some (.string x) := by have := hc 0 (by omega); simpa [stc] using this
        have hlt' : (k : Int) < (l.length : Int) := by omega
        have HN := Lib.hid (take_all_no hq.out)
        clear hx hc hq
        have hs0 : wr.heap.size ≤ wr.heap.size := Nat.le_refl _
        have lT_0 : w.heap.size < wr.heap.size := KT_r.out.lt
        have cT_0_0 : wr.cell? ⟨w.heap.size, 0, none⟩ = some (.slice va a.length vc) := KT_r.out.cell 0
        have cT_1_0 : wr.cell? ⟨w.heap.size, 1, none⟩ = some (.slice ua b.length uc) := KT_r.out.cell 1
        go_wp2_with fail
        clear lT_0 cT_0_0 cT_1_0
        have HS1 : Hid (∀ X : World, Below wr.heap.size wr X → X.cell? ⟨w.heap.size, 0, none⟩ = some (.slice va a.length vc) ∧ X.cell? ⟨w.heap.size, 1, none⟩ = some (.slice ua b.length uc) ∧ Below wr.heap.size wr X) := Lib.hid fun X h => ⟨(h.cell (p := ⟨w.heap.size, 0, none⟩) KT_r.out.lt).trans (KT_r.out.cell 0), (h.cell (p := ⟨w.heap.size, 1, none⟩) KT_r.out.lt).trans (KT_r.out.cell 1), h⟩
        refine wp_region_held_drew (S := fun X => X.cell? ⟨w.heap.size, 0, none⟩ = some (.slice va a.length vc) ∧ X.cell? ⟨w.heap.size, 1, none⟩ = some (.slice ua b.length uc) ∧ Below wr.heap.size wr X) (by kernel_rfl) (HS1.out _ (Below.refl _ _).drew) (fun hHeld => ?_)
        try (first | (refine take_yes (i := 0) (v := ?_) rfl (by kernel_rfl) (by decide +kernel) (by decide +kernel) (fun _ _ _ h => h) (by rfl) ?_ (by assumption) ?_; rotate_left; intro w hSw; (try dsimp only at hSw); go_simp; with_reducible rfl; simp only [Act.put, List.setIfInBounds_toArray, List.set_cons_zero, List.set_cons_succ]) | (refine take_no (i := 0) rfl (by kernel_rfl) (by decide +kernel) (by decide +kernel) (fun _ _ _ h => h) (by rfl) (by assumption) ?_; simp only [Act.put, List.setIfInBounds_toArray, List.set_cons_zero, List.set_cons_succ]))
        try (first | (refine take_yes (i := 1) (v := ?_) rfl (by kernel_rfl) (by decide +kernel) (by decide +kernel) (fun _ _ _ h => h) (by rfl) ?_ (by assumption) ?_; rotate_left; intro w hSw; (try dsimp only at hSw); go_simp; with_reducible rfl; simp only [Act.put, List.setIfInBounds_toArray, List.set_cons_zero, List.set_cons_succ]) | (refine take_no (i := 1) rfl (by kernel_rfl) (by decide +kernel) (by decide +kernel) (fun _ _ _ h => h) (by rfl) (by assumption) ?_; simp only [Act.put, List.setIfInBounds_toArray, List.set_cons_zero, List.set_cons_succ]))
        try (first | (refine take_yes (i := 2) (v := ?_) rfl (by kernel_rfl) (by decide +kernel) (by decide +kernel) (fun _ _ _ h => h) (by rfl) ?_ (by assumption) ?_; rotate_left; intro w hSw; (try dsimp only at hSw); go_simp; with_reducible rfl; simp only [Act.put, List.setIfInBounds_toArray, List.set_cons_zero, List.set_cons_succ]) | (refine take_no (i := 2) rfl (by kernel_rfl) (by decide +kernel) (by decide +kernel) (fun _ _ _ h => h) (by rfl) (by assumption) ?_; simp only [Act.put, List.setIfInBounds_toArray, List.set_cons_zero, List.set_cons_succ]))
        try (first | (refine take_yes (i := 3) (v := ?_) rfl (by kernel_rfl) (by decide +kernel) (by decide +kernel) (fun _ _ _ h => h) (by rfl) ?_ (by assumption) ?_; rotate_left; intro w hSw; (try dsimp only at hSw); go_simp; with_reducible rfl; simp only [Act.put, List.setIfInBounds_toArray, List.set_cons_zero, List.set_cons_succ]) | (refine take_no (i := 3) rfl (by kernel_rfl) (by decide +kernel) (by decide +kernel) (fun _ _ _ h => h) (by rfl) (by assumption) ?_; simp only [Act.put, List.setIfInBounds_toArray, List.set_cons_zero, List.set_cons_succ]))
        try (first | (refine take_yes (i := 4) (v := ?_) rfl (by kernel_rfl) (by decide +kernel) (by decide +kernel) (fun _ _ _ h => h) (by rfl) ?_ (by assumption) ?_; rotate_left; intro w hSw; (try dsimp only at hSw); go_simp; with_reducible rfl; simp only [Act.put, List.setIfInBounds_toArray, List.set_cons_zero, List.set_cons_succ]) | (refine take_no (i := 4) rfl (by kernel_rfl) (by decide +kernel) (by decide +kernel) (fun _ _ _ h => h) (by rfl) (by assumption) ?_; simp only [Act.put, List.setIfInBounds_toArray, List.set_cons_zero, List.set_cons_succ]))
        try (first | (refine take_yes (i := 5) (v := ?_) rfl (by kernel_rfl) (by decide +kernel) (by decide +kernel) (fun _ _ _ h => h) (by rfl) ?_ (by assumption) ?_; rotate_left; intro w hSw; (try dsimp only at hSw); go_simp; with_reducible rfl; simp only [Act.put, List.setIfInBounds_toArray, List.set_cons_zero, List.set_cons_succ]) | (refine take_no (i := 5) rfl (by kernel_rfl) (by decide +kernel) (by decide +kernel) (fun _ _ _ h => h) (by rfl) (by assumption) ?_; simp only [Act.put, List.setIfInBounds_toArray, List.set_cons_zero, List.set_cons_succ]))
        try (first | (refine take_yes (i := 6) (v := ?_) rfl (by kernel_rfl) (by decide +kernel) (by decide +kernel) (fun _ _ _ h => h) (by rfl) ?_ (by assumption) ?_; rotate_left; intro w hSw; (try dsimp only at hSw); go_simp; with_reducible rfl; simp only [Act.put, List.setIfInBounds_toArray, List.set_cons_zero, List.set_cons_succ]) | (refine take_no (i := 6) rfl (by kernel_rfl) (by decide +kernel) (by decide +kernel) (fun _ _ _ h => h) (by rfl) (by assumption) ?_; simp only [Act.put, List.setIfInBounds_toArray, List.set_cons_zero, List.set_cons_succ]))
        try (first | (refine take_yes (i := 7) (v := ?_) rfl (by kernel_rfl) (by decide +kernel) (by decide +kernel) (fun _ _ _ h => h) (by rfl) ?_ (by assumption) ?_; rotate_left; intro w hSw; (try dsimp only at hSw); go_simp; with_reducible rfl; simp only [Act.put, List.setIfInBounds_toArray, List.set_cons_zero, List.set_cons_succ]) | (refine take_no (i := 7) rfl (by kernel_rfl) (by decide +kernel) (by decide +kernel) (fun _ _ _ h => h) (by rfl) (by assumption) ?_; simp only [Act.put, List.setIfInBounds_toArray, List.set_cons_zero, List.set_cons_succ]))
        try (first | (refine take_yes (i := 8) (v := ?_) rfl (by kernel_rfl) (by decide +kernel) (by decide +kernel) (fun _ _ _ h => h) (by rfl) ?_ (by assumption) ?_; rotate_left; intro w hSw; (try dsimp only at hSw); go_simp; with_reducible rfl; simp only [Act.put, List.setIfInBounds_toArray, List.set_cons_zero, List.set_cons_succ]) | (refine take_no (i := 8) rfl (by kernel_rfl) (by decide +kernel) (by decide +kernel) (fun _ _ _ h => h) (by rfl) (by assumption) ?_; simp only [Act.put, List.setIfInBounds_toArray, List.set_cons_zero, List.set_cons_succ]))
        try (first | (refine take_yes (i := 9) (v := ?_) rfl (by kernel_rfl) (by decide +kernel) (by decide +kernel) (fun _ _ _ h => h) (by rfl) ?_ (by assumption) ?_; rotate_left; intro w hSw; (try dsimp only at hSw); go_simp; with_reducible rfl; simp only [Act.put, List.setIfInBounds_toArray, List.set_cons_zero, List.set_cons_succ]) | (refine take_no (i := 9) rfl (by kernel_rfl) (by decide +kernel) (by decide +kernel) (fun _ _ _ h => h) (by rfl) (by assumption) ?_; simp only [Act.put, List.setIfInBounds_toArray, List.set_cons_zero, List.set_cons_succ]))
        try (first | (refine take_yes (i := 10) (v := ?_) rfl (by kernel_rfl) (by decide +kernel) (by decide +kernel) (fun _ _ _ h => h) (by rfl) ?_ (by assumption) ?_; rotate_left; intro w hSw; (try dsimp only at hSw); go_simp; with_reducible rfl; simp only [Act.put, List.setIfInBounds_toArray, List.set_cons_zero, List.set_cons_succ]) | (refine take_no (i := 10) rfl (by kernel_rfl) (by decide +kernel) (by decide +kernel) (fun _ _ _ h => h) (by rfl) (by assumption) ?_; simp only [Act.put, List.setIfInBounds_toArray, List.set_cons_zero, List.set_cons_succ]))
        refine wpAnyH_done (by decide +kernel) ?_ _
        have b1 : Below wr.heap.size wr wr.drew := (Below.refl _ _).drew
        generalize wr.drew = wr1 at b1 ⊢
        clear HS1
        have V_1 := Lib.hid (V_r.out.below b1)
        clear V_r
        have U_1 := Lib.hid (U_r.out.below b1)
        clear U_r
        have LL_1 := Lib.hid (LL_r.out.below b1)
        clear LL_r
        have KT_1 := Lib.hid (KT_r.out.below b1 KT_r.out.lt)
        clear KT_r
        have B_1 := Lib.hid (HBR.out.trans (b1.mono HBR.out.size))
        clear HBR
        go_wp2
        refine ⟨⟨k + 1, false, by omega, by go_num, rfl, HN, B_1.out⟩, ?_⟩
        simp [intOf]; omega
      · obtain ⟨g, o, cc, x, hx, hv, hg, hc⟩ := LL_r.out.at_ stc_len hlt
        injection hv with e1 e2 e3
        subst e1 e3
        clear e2
        have d0 : wr.cell? ⟨g, o + k, none⟩ = some (.string x) := by have := hc 0 (by omega); simpa [stc] using this
        have hlt' : (k : Int) < (l.length : Int) := by omega
        obtain ⟨r, hr⟩ : ∃ r, usedB a x = r := ⟨_, rfl⟩
        have HN := Lib.hid (take_all_yes (f := fun s => usedB a s) hq.out hx hr)
        have HR := Lib.hid hr
        clear hx hc hr hq
        have hs0 : wr.heap.size ≤ wr.heap.size := Nat.le_refl _
        have lT_0 : w.heap.size < wr.heap.size := KT_r.out.lt
        have cT_0_0 : wr.cell? ⟨w.heap.size, 0, none⟩ = some (.slice va a.length vc) := KT_r.out.cell 0
        have cT_1_0 : wr.cell? ⟨w.heap.size, 1, none⟩ = some (.slice ua b.length uc) := KT_r.out.cell 1
        go_wp2_with fail
        clear lT_0 cT_0_0 cT_1_0
        have hd1 : Below wr.heap.size wr wr.drew := (Below.refl _ _).drew
        have HS1 : Hid (∀ X : World, Below wr.heap.size wr X → X.cell? ⟨w.heap.size, 0, none⟩ = some (.slice va a.length vc) ∧ X.cell? ⟨w.heap.size, 1, none⟩ = some (.slice ua b.length uc) ∧ X.cell? ⟨g, o + k, none⟩ = some (.string x)) := Lib.hid fun X h => ⟨(h.cell (p := ⟨w.heap.size, 0, none⟩) KT_r.out.lt).trans (KT_r.out.cell 0), (h.cell (p := ⟨w.heap.size, 1, none⟩) KT_r.out.lt).trans (KT_r.out.cell 1), (h.cell (p := ⟨g, o + k, none⟩) hg).trans d0⟩
        obtain ⟨x1_0, x1_1, x1_2⟩ := HS1.out _ hd1
        first | go_loud (go_region_held3 (fun X => X.cell? ⟨w.heap.size, 0, none⟩ = some (.slice va a.length vc) ∧ X.cell? ⟨w.heap.size, 1, none⟩ = some (.slice ua b.length uc) ∧ X.cell? ⟨g, o + k, none⟩ = some (.string x) ∧ Below wr.heap.size wr X) (go_keep)
          (first | (go_at_call 33; (with_reducible refine (has_ex a _ x r _ la (V_r.out.below (by assumption)) HR.out).mono ?_); rintro e wr1 ⟨rfl, hb⟩; have rB1 := chain (a := wr) hb (by assumption); obtain ⟨x1_0, x1_1, x1_2⟩ := HS1.out _ rB1; clear hb))) | fail
        have b1 : Below wr.heap.size wr wr1 := by assumption
        clear HS1
        have V_1 := Lib.hid (V_r.out.below b1)
        clear V_r
        have U_1 := Lib.hid (U_r.out.below b1)
        clear U_r
        have LL_1 := Lib.hid (LL_r.out.below b1)
        clear LL_r
        have KT_1 := Lib.hid (KT_r.out.below b1 KT_r.out.lt)
        clear KT_r
        have B_1 := Lib.hid (HBR.out.trans (b1.mono HBR.out.size))
        clear HBR
        go_wp2
        refine ⟨⟨k + 1, r, by omega, by go_num, rfl, HN, B_1.out⟩, ?_⟩
        simp [intOf]; omega
    · have hge : (l.length : Int) ≤ (k : Int) := by omega
      have hq2 := hq.out
      rw [List.take_of_length_le (by omega), HAU.out] at hq2
      subst hq2
      clear hq HAU HBR
      have lT_20 : w.heap.size < wr.heap.size := KT_r.out.lt
      have cT_0_20 : wr.cell? ⟨w.heap.size, 0, none⟩ = some (.slice va a.length vc) := KT_r.out.cell 0
      have cT_1_20 : wr.cell? ⟨w.heap.size, 1, none⟩ = some (.slice ua b.length uc) := KT_r.out.cell 1
      go_wp2_with fail
      clear lT_20 cT_0_20 cT_1_20
      refine (map_ex a b l _ _ _ m 0 _ V_r.out U_r.out LL_r.out ZA.out ZB.out ZL.out (by omega) HMR.out HME.out).mono ?_
      rintro e w21 ⟨V1, rfl, r1, b21⟩
      have V_21 := Lib.hid (V_r.out.below b21)
      clear V_r
      have U_21 := Lib.hid (U_r.out.below b21)
      clear U_r
      have LL_21 := Lib.hid (LL_r.out.below b21)
      clear LL_r
      have KT_21 := Lib.hid (KT_r.out.below b21 KT_r.out.lt)
      clear KT_r
      have B_21 := Lib.hid (B_r.out.trans (b21.mono B_r.out.size))
      clear B_r
      clear b21
      obtain ⟨xa, xc, rfl⟩ : ∃ x y, V1 = .slice x l.length y := by have := row_slice r1; rw [HML.out] at this; exact this
      have y1 := Lst.of_row r1
      clear r1
      have M := Lib.hid y1
      clear y1
      have lT_21 : w.heap.size < w21.heap.size := KT_21.out.lt
      have cT_0_21 : w21.cell? ⟨w.heap.size, 0, none⟩ = some (.slice va a.length vc) := KT_21.out.cell 0
      have cT_1_21 : w21.cell? ⟨w.heap.size, 1, none⟩ = some (.slice ua b.length uc) := KT_21.out.cell 1
      go_wp2_with fail
      clear lT_21 cT_0_21 cT_1_21
      refine (inv_ex a b _ _ 0 _ V_21.out U_21.out ZA.out ZB.out HN.out HN'.out H0T.out).mono ?_
      rintro e w22 ⟨V2, rfl, ht, b22⟩
      have V_22 := Lib.hid (V_21.out.below b22)
      clear V_21
      have U_22 := Lib.hid (U_21.out.below b22)
      clear U_21
      have LL_22 := Lib.hid (LL_21.out.below b22)
      clear LL_21
      have M_22 := Lib.hid (M.out.below b22)
      clear M
      have KT_22 := Lib.hid (KT_21.out.below b22 KT_21.out.lt)
      clear KT_21
      have B_22 := Lib.hid (B_21.out.trans (b22.mono B_21.out.size))
      clear B_21
      clear b22
      rw [okL_yes rfl, okL_yes rfl] at ht
      obtain ⟨x1, x2, rfl, r1, r2⟩ := ht
      obtain ⟨ya, yc, rfl⟩ := row_slice r1
      obtain ⟨za', zc, rfl⟩ := row_slice r2
      have X1 := Lib.hid r1
      clear r1
      have X2 := Lib.hid r2
      clear r2
      go_wp2_with fail
      refine (map_ex b a m _ _ _ l 0 _ (Lst.of_row X1.out) (Lst.of_row X2.out) M_22.out ZB.out ZA.out ZM.out (by rw [HML.out]; omega) HMR2.out HME2.out).mono ?_
      rintro e w23 ⟨V3, rfl, r1, b23⟩
      have V_23 := Lib.hid (V_22.out.below b23)
      clear V_22
      have U_23 := Lib.hid (U_22.out.below b23)
      clear U_22
      have LL_23 := Lib.hid (LL_22.out.below b23)
      clear LL_22
      have M_23 := Lib.hid (M_22.out.below b23)
      clear M_22
      have X1_23 := Lib.hid (row_below X1.out b23)
      clear X1
      have X2_23 := Lib.hid (row_below X2.out b23)
      clear X2
      have KT_23 := Lib.hid (KT_22.out.below b23 KT_22.out.lt)
      clear KT_22
      have B_23 := Lib.hid (B_22.out.trans (b23.mono B_22.out.size))
      clear B_22
      clear b23
      obtain ⟨ja, jc, rfl⟩ := row_slice r1
      have N := Lib.hid r1
      clear r1
      go_wp2_with fail
      refine (texts_ex l l _ _ true _ (by omega) (by omega) (Lst.of_row N.out) LL_23.out (same_self l)).mono ?_
      rintro e w24 ⟨rfl, b24⟩
      have V_24 := Lib.hid (V_23.out.below b24)
      clear V_23
      have U_24 := Lib.hid (U_23.out.below b24)
      clear U_23
      have LL_24 := Lib.hid (LL_23.out.below b24)
      clear LL_23
      have M_24 := Lib.hid (M_23.out.below b24)
      clear M_23
      have X1_24 := Lib.hid (row_below X1_23.out b24)
      clear X1_23
      have X2_24 := Lib.hid (row_below X2_23.out b24)
      clear X2_23
      have N_24 := Lib.hid (row_below N.out b24)
      clear N
      have KT_24 := Lib.hid (KT_23.out.below b24 KT_23.out.lt)
      clear KT_23
      have B_24 := Lib.hid (B_23.out.trans (b24.mono B_23.out.size))
      clear B_23
      clear b24
      go_wp2
      go_ret
      exact ⟨rfl, B_24.out⟩

theorem law_maps (a b l : List ByteArray) (v u t : Value) (w : World) (hv : Lst stc w v a) (hu : Lst stc w u b) (ht : Lst stc w t l) (hn : NilFine v) (hn' : NilFine u) :
    Calls Try.prog 7 #[.agg #[v, u], t] w fun e w' => e = .returned (.bool true) ∧ Below w.heap.size w w' := by
  by_cases h1 : (fewB a 210 && fewB b 210) = true
  · by_cases h3 : fewB l 30 = true
    · by_cases h0 : checkF a b = 0
      · cases hm : mapL a b l with
        | none => exact maps_none a b l v u t w hv hu ht h1 h3 h0 hm
        | some m => exact maps_some a b l v u t w hv hu ht hn hn' h1 h3 h0 m hm
      · exact maps_no3 a b l v u t w hv hu ht h1 h3 h0
    · exact maps_no2 a b l v u t w hv hu ht h1 (by simpa using h3)
  · exact maps_no1 a b l v u t w hv hu ht (by simpa using h1)
end Go.Proofs.Ytadodccciejghaa
