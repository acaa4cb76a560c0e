/- NetChecks: the law's function, for every input. -/
import Derived.Test.YtfkmolbcgnkfdaaDoorWorks
import Derived.Test.YtfkmolbcgnkfdaaDoorBounds
import Derived.Deep.RegionHeld3
namespace Go.Proofs.YtfkmolbcgnkfdaaDoor
open Go.RowKit
attribute [local go_sem] Oper.semAt_some
set_option maxRecDepth 100000
set_option maxHeartbeats 4000000
theorem rcheck_ex (c : Ci) (a b l g : Value) (o : Int) (s : ByteArray) (w : World) (h : Cir w a b l g c) (hb : Bounds c) (hq : checkC c = (o, s)) :
    Calls Tryd.prog 16 #[.agg #[a, b, l, g]] w fun e w' => e = .returned (.tuple #[.int .i64 o, .string s]) ∧ Below w.heap.size w w' := by
  have := rcheck_any c a b l g w h hb.few hb.fewG hb.fewZ hb.told
  rwa [hq] at this
theorem check_bx (c : Ci) (a b l g : Value) (o : Int) (s : ByteArray) (w : World) (h : Cir w a b l g c) (hb : Bounds c) (hq : checkC c = (o, s)) :
    Calls Tryd.prog 15 #[.agg #[a, b, l, g]] w fun e w' => e = .returned (.tuple #[.int .i64 o, .string s]) ∧ Below w.heap.size w w' :=
  check_ex c a b l g o s w h ⟨hb.few, hb.fewG, hb.fewZ⟩ hq
theorem rplace_ex (c : Ci) (a b l g : Value) (s : ByteArray) (o : Int) (w : World) (h : Cir w a b l g c) (hf : Few c) (hq : placeL (netsC c) s = o) :
    Calls Tryd.prog 20 #[.agg #[a, b, l, g], .string s] w fun e w' => e = .returned (.int .i64 o) ∧ Below w.heap.size w w' := by
  subst hq
  exact rplace_any c a b l g s w h hf
theorem rsame_ex (c d : Ci) (a b l g a' b' l' g' : Value) (o : Bool) (w : World) (h : Cir w a b l g c) (h' : Cir w a' b' l' g' d) (hf : Bounds c) (hf' : Bounds d) (hq : ciEq c d = o) :
    Calls Tryd.prog 21 #[.agg #[a, b, l, g], .agg #[a', b', l', g']] w fun e w' => e = .returned (.bool o) ∧ Below w.heap.size w w' := by
  subst hq
  exact rsame_any c d a b l g a' b' l' g' w h h' hf.few hf'.few hf.fewG hf'.fewG
theorem same_bx (c d : Ci) (a b l g a' b' l' g' : Value) (o : Bool) (w : World) (h : Cir w a b l g c) (h' : Cir w a' b' l' g' d) (hf : Bounds c) (hf' : Bounds d) (hq : ciEq c d = o) :
    Calls Tryd.prog 23 #[.agg #[a, b, l, g], .agg #[a', b', l', g']] w fun e w' => e = .returned (.bool o) ∧ Below w.heap.size w w' := by
  subst hq
  exact same_any c d a b l g a' b' l' g' w h h' hf.few hf'.few hf.fewG hf'.fewG
theorem texts_self (l : List ByteArray) (v u : Value) (w : World) (hn : l.length ≤ 1000) (ht : Lst stc w v l) (hu : Lst stc w u l) :
    Calls Tryd.prog 17 #[v, u] w fun e w' => e = .returned (.bool true) ∧ Below w.heap.size w w' := by
  have := texts_any l l v u w (by omega) (by omega) ht hu
  rwa [eqL_self] at this
  exact stEq_self
theorem law_checks (c o : Ci) (a b l g a' b' l' g' : Value) (s : ByteArray) (w : World) (h : Cir w a b l g c) (h' : Cir w a' b' l' g' o) :
    Calls Tryd.prog 3 #[.agg #[a, b, l, g], .agg #[a', b', l', g'], .string s] w fun e w' => e = .returned (.bool true) ∧ Below w.heap.size w w' := by
  have HC := Lib.hid h
  have HD := Lib.hid h'
  obtain ⟨p1, q1, p2, q2, p3, q3, p4, q4, rfl, rfl, rfl, rfl⟩ := h.slices
  obtain ⟨p1', q1', p2', q2', p3', q3', p4', q4', rfl, rfl, rfl, rfl⟩ := h'.slices
  clear h h'
  obtain ⟨f1, hf1⟩ : ∃ q, fewcB c = q := ⟨_, rfl⟩
  obtain ⟨f2, hf2⟩ : ∃ q, fewcB o = q := ⟨_, rfl⟩
  obtain ⟨ck, cs, hck⟩ : ∃ x y, checkC c = (x, y) := ⟨_, _, rfl⟩
  obtain ⟨pl, hpl⟩ : ∃ x, placeL (netsC c) s = x := ⟨_, rfl⟩
  obtain ⟨sm, hsm⟩ : ∃ x, ciEq c o = x := ⟨_, rfl⟩
  have HF1 := Lib.hid hf1
  have HF2 := Lib.hid hf2
  have HCK := Lib.hid hck
  have HPL := Lib.hid hpl
  have HSM := Lib.hid hsm
  have hes := tl_self cs
  clear hf1 hf2 hck hpl hsm
  go_enter Tryd.func3, Tryd.ntmps3
  go_wp2_with fail
  have a1 : Below w.heap.size w ((w.alloc (.cells #[.slice p1 c.ins.length q1, .slice p2 c.outs.length q2, .slice p3 c.las.length q3, .slice p4 c.gts.length q4] 26)).alloc (.cells #[.slice p1' o.ins.length q1', .slice p2' o.outs.length q2', .slice p3' o.las.length q3', .slice p4' o.gts.length q4'] 26)) := (((Below.refl w.heap.size w).alloc (by first | exact Nat.le_refl _ | (simp only [World.size_alloc]; omega)) (.cells #[.slice p1 c.ins.length q1, .slice p2 c.outs.length q2, .slice p3 c.las.length q3, .slice p4 c.gts.length q4] 26)).alloc (by first | exact Nat.le_refl _ | (simp only [World.size_alloc]; omega)) (.cells #[.slice p1' o.ins.length q1', .slice p2' o.outs.length q2', .slice p3' o.las.length q3', .slice p4' o.gts.length q4'] 26))
  have T_new0 := ((Blk.new w #[.slice p1 c.ins.length q1, .slice p2 c.outs.length q2, .slice p3 c.las.length q3, .slice p4 c.gts.length q4] 26).alloc (.cells #[.slice p1' o.ins.length q1', .slice p2' o.outs.length q2', .slice p3' o.las.length q3', .slice p4' o.gts.length q4'] 26))
  have KT_00 := Lib.hid T_new0
  clear T_new0
  have U_new0 := (Blk.new (w.alloc (.cells #[.slice p1 c.ins.length q1, .slice p2 c.outs.length q2, .slice p3 c.las.length q3, .slice p4 c.gts.length q4] 26)) #[.slice p1' o.ins.length q1', .slice p2' o.outs.length q2', .slice p3' o.las.length q3', .slice p4' o.gts.length q4'] 26)
  rw [World.size_alloc] at U_new0
  have KU_00 := Lib.hid U_new0
  clear U_new0
  have C_1 := Lib.hid (HC.out.below a1)
  clear HC
  have D_1 := Lib.hid (HD.out.below a1)
  clear HD
  have B_1 := Lib.hid a1
  clear a1
  generalize ((w.alloc (.cells #[.slice p1 c.ins.length q1, .slice p2 c.outs.length q2, .slice p3 c.las.length q3, .slice p4 c.gts.length q4] 26)).alloc (.cells #[.slice p1' o.ins.length q1', .slice p2' o.outs.length q2', .slice p3' o.las.length q3', .slice p4' o.gts.length q4'] 26)) = w1 at C_1 D_1 KT_00 KU_00 B_1 ⊢
  refine (works_any _).mono ?_
  rintro e w2 ⟨rfl, b2⟩
  have C_2 := Lib.hid (C_1.out.below b2)
  clear C_1
  have D_2 := Lib.hid (D_1.out.below b2)
  clear D_1
  have KT_2 := Lib.hid (KT_00.out.below b2 KT_00.out.lt)
  clear KT_00
  have KU_2 := Lib.hid (KU_00.out.below b2 KU_00.out.lt)
  clear KU_00
  have B_2 := Lib.hid (B_1.out.trans (b2.mono B_1.out.size))
  clear B_1
  clear b2
  have lT_2 : w.heap.size < w2.heap.size := KT_2.out.lt
  have cT_0_2 : w2.cell? ⟨w.heap.size, 0, none⟩ = some (.slice p1 c.ins.length q1) := KT_2.out.cell 0
  have cT_1_2 : w2.cell? ⟨w.heap.size, 1, none⟩ = some (.slice p2 c.outs.length q2) := KT_2.out.cell 1
  have cT_2_2 : w2.cell? ⟨w.heap.size, 2, none⟩ = some (.slice p3 c.las.length q3) := KT_2.out.cell 2
  have cT_3_2 : w2.cell? ⟨w.heap.size, 3, none⟩ = some (.slice p4 c.gts.length q4) := KT_2.out.cell 3
  have lU_2 : w.heap.size + 1 < w2.heap.size := KU_2.out.lt
  have cU_0_2 : w2.cell? ⟨w.heap.size + 1, 0, none⟩ = some (.slice p1' o.ins.length q1') := KU_2.out.cell 0
  have cU_1_2 : w2.cell? ⟨w.heap.size + 1, 1, none⟩ = some (.slice p2' o.outs.length q2') := KU_2.out.cell 1
  have cU_2_2 : w2.cell? ⟨w.heap.size + 1, 2, none⟩ = some (.slice p3' o.las.length q3') := KU_2.out.cell 2
  have cU_3_2 : w2.cell? ⟨w.heap.size + 1, 3, none⟩ = some (.slice p4' o.gts.length q4') := KU_2.out.cell 3
  go_wp2_with fail
  clear lT_2 cT_0_2 cT_1_2 cT_2_2 cT_3_2 lU_2 cU_0_2 cU_1_2 cU_2_2 cU_3_2
  refine (fewc_any c _ _ _ _ f1 _ C_2.out HF1.out).mono ?_
  rintro e w3 ⟨rfl, b3⟩
  have C_3 := Lib.hid (C_2.out.below b3)
  clear C_2
  have D_3 := Lib.hid (D_2.out.below b3)
  clear D_2
  have KT_3 := Lib.hid (KT_2.out.below b3 KT_2.out.lt)
  clear KT_2
  have KU_3 := Lib.hid (KU_2.out.below b3 KU_2.out.lt)
  clear KU_2
  have B_3 := Lib.hid (B_2.out.trans (b3.mono B_2.out.size))
  clear B_2
  clear b3
  have lT_3 : w.heap.size < w3.heap.size := KT_3.out.lt
  have cT_0_3 : w3.cell? ⟨w.heap.size, 0, none⟩ = some (.slice p1 c.ins.length q1) := KT_3.out.cell 0
  have cT_1_3 : w3.cell? ⟨w.heap.size, 1, none⟩ = some (.slice p2 c.outs.length q2) := KT_3.out.cell 1
  have cT_2_3 : w3.cell? ⟨w.heap.size, 2, none⟩ = some (.slice p3 c.las.length q3) := KT_3.out.cell 2
  have cT_3_3 : w3.cell? ⟨w.heap.size, 3, none⟩ = some (.slice p4 c.gts.length q4) := KT_3.out.cell 3
  have lU_3 : w.heap.size + 1 < w3.heap.size := KU_3.out.lt
  have cU_0_3 : w3.cell? ⟨w.heap.size + 1, 0, none⟩ = some (.slice p1' o.ins.length q1') := KU_3.out.cell 0
  have cU_1_3 : w3.cell? ⟨w.heap.size + 1, 1, none⟩ = some (.slice p2' o.outs.length q2') := KU_3.out.cell 1
  have cU_2_3 : w3.cell? ⟨w.heap.size + 1, 2, none⟩ = some (.slice p3' o.las.length q3') := KU_3.out.cell 2
  have cU_3_3 : w3.cell? ⟨w.heap.size + 1, 3, none⟩ = some (.slice p4' o.gts.length q4') := KU_3.out.cell 3
  cases f1
  · go_wp2
    go_ret
    exact ⟨rfl, B_3.out⟩
  · have BC := Lib.hid (fewcB_get HF1.out)
    go_wp2_with fail
    clear lT_3 cT_0_3 cT_1_3 cT_2_3 cT_3_3 lU_3 cU_0_3 cU_1_3 cU_2_3 cU_3_3
    refine (fewc_any o _ _ _ _ f2 _ D_3.out HF2.out).mono ?_
    rintro e w4 ⟨rfl, b4⟩
    have C_4 := Lib.hid (C_3.out.below b4)
    clear C_3
    have D_4 := Lib.hid (D_3.out.below b4)
    clear D_3
    have KT_4 := Lib.hid (KT_3.out.below b4 KT_3.out.lt)
    clear KT_3
    have KU_4 := Lib.hid (KU_3.out.below b4 KU_3.out.lt)
    clear KU_3
    have B_4 := Lib.hid (B_3.out.trans (b4.mono B_3.out.size))
    clear B_3
    clear b4
    have lT_4 : w.heap.size < w4.heap.size := KT_4.out.lt
    have cT_0_4 : w4.cell? ⟨w.heap.size, 0, none⟩ = some (.slice p1 c.ins.length q1) := KT_4.out.cell 0
    have cT_1_4 : w4.cell? ⟨w.heap.size, 1, none⟩ = some (.slice p2 c.outs.length q2) := KT_4.out.cell 1
    have cT_2_4 : w4.cell? ⟨w.heap.size, 2, none⟩ = some (.slice p3 c.las.length q3) := KT_4.out.cell 2
    have cT_3_4 : w4.cell? ⟨w.heap.size, 3, none⟩ = some (.slice p4 c.gts.length q4) := KT_4.out.cell 3
    have lU_4 : w.heap.size + 1 < w4.heap.size := KU_4.out.lt
    have cU_0_4 : w4.cell? ⟨w.heap.size + 1, 0, none⟩ = some (.slice p1' o.ins.length q1') := KU_4.out.cell 0
    have cU_1_4 : w4.cell? ⟨w.heap.size + 1, 1, none⟩ = some (.slice p2' o.outs.length q2') := KU_4.out.cell 1
    have cU_2_4 : w4.cell? ⟨w.heap.size + 1, 2, none⟩ = some (.slice p3' o.las.length q3') := KU_4.out.cell 2
    have cU_3_4 : w4.cell? ⟨w.heap.size + 1, 3, none⟩ = some (.slice p4' o.gts.length q4') := KU_4.out.cell 3
    cases f2
    · go_wp2
      go_ret
      exact ⟨rfl, B_4.out⟩
    · have BO := Lib.hid (fewcB_get HF2.out)
      by_cases h60 : 60 < (s.size : Int)
      · go_wp2
        go_ret
        exact ⟨rfl, B_4.out⟩
      · go_wp2_with fail
        clear lT_4 cT_0_4 cT_1_4 cT_2_4 cT_3_4 lU_4 cU_0_4 cU_1_4 cU_2_4 cU_3_4
        refine (check_bx c _ _ _ _ ck cs _ C_4.out BC.out HCK.out).mono ?_
        rintro e w5 ⟨rfl, b5⟩
        have C_5 := Lib.hid (C_4.out.below b5)
        clear C_4
        have D_5 := Lib.hid (D_4.out.below b5)
        clear D_4
        have KT_5 := Lib.hid (KT_4.out.below b5 KT_4.out.lt)
        clear KT_4
        have KU_5 := Lib.hid (KU_4.out.below b5 KU_4.out.lt)
        clear KU_4
        have B_5 := Lib.hid (B_4.out.trans (b5.mono B_4.out.size))
        clear B_4
        clear b5
        have lT_5 : w.heap.size < w5.heap.size := KT_5.out.lt
        have cT_0_5 : w5.cell? ⟨w.heap.size, 0, none⟩ = some (.slice p1 c.ins.length q1) := KT_5.out.cell 0
        have cT_1_5 : w5.cell? ⟨w.heap.size, 1, none⟩ = some (.slice p2 c.outs.length q2) := KT_5.out.cell 1
        have cT_2_5 : w5.cell? ⟨w.heap.size, 2, none⟩ = some (.slice p3 c.las.length q3) := KT_5.out.cell 2
        have cT_3_5 : w5.cell? ⟨w.heap.size, 3, none⟩ = some (.slice p4 c.gts.length q4) := KT_5.out.cell 3
        have lU_5 : w.heap.size + 1 < w5.heap.size := KU_5.out.lt
        have cU_0_5 : w5.cell? ⟨w.heap.size + 1, 0, none⟩ = some (.slice p1' o.ins.length q1') := KU_5.out.cell 0
        have cU_1_5 : w5.cell? ⟨w.heap.size + 1, 1, none⟩ = some (.slice p2' o.outs.length q2') := KU_5.out.cell 1
        have cU_2_5 : w5.cell? ⟨w.heap.size + 1, 2, none⟩ = some (.slice p3' o.las.length q3') := KU_5.out.cell 2
        have cU_3_5 : w5.cell? ⟨w.heap.size + 1, 3, none⟩ = some (.slice p4' o.gts.length q4') := KU_5.out.cell 3
        go_wp2_with fail
        clear lT_5 cT_0_5 cT_1_5 cT_2_5 cT_3_5 lU_5 cU_0_5 cU_1_5 cU_2_5 cU_3_5
        refine (rcheck_ex c _ _ _ _ ck cs _ C_5.out BC.out HCK.out).mono ?_
        rintro e w6 ⟨rfl, b6⟩
        have C_6 := Lib.hid (C_5.out.below b6)
        clear C_5
        have D_6 := Lib.hid (D_5.out.below b6)
        clear D_5
        have KT_6 := Lib.hid (KT_5.out.below b6 KT_5.out.lt)
        clear KT_5
        have KU_6 := Lib.hid (KU_5.out.below b6 KU_5.out.lt)
        clear KU_5
        have B_6 := Lib.hid (B_5.out.trans (b6.mono B_5.out.size))
        clear B_5
        clear b6
        have lT_6 : w.heap.size < w6.heap.size := KT_6.out.lt
        have cT_0_6 : w6.cell? ⟨w.heap.size, 0, none⟩ = some (.slice p1 c.ins.length q1) := KT_6.out.cell 0
        have cT_1_6 : w6.cell? ⟨w.heap.size, 1, none⟩ = some (.slice p2 c.outs.length q2) := KT_6.out.cell 1
        have cT_2_6 : w6.cell? ⟨w.heap.size, 2, none⟩ = some (.slice p3 c.las.length q3) := KT_6.out.cell 2
        have cT_3_6 : w6.cell? ⟨w.heap.size, 3, none⟩ = some (.slice p4 c.gts.length q4) := KT_6.out.cell 3
        have lU_6 : w.heap.size + 1 < w6.heap.size := KU_6.out.lt
        have cU_0_6 : w6.cell? ⟨w.heap.size + 1, 0, none⟩ = some (.slice p1' o.ins.length q1') := KU_6.out.cell 0
        have cU_1_6 : w6.cell? ⟨w.heap.size + 1, 1, none⟩ = some (.slice p2' o.outs.length q2') := KU_6.out.cell 1
        have cU_2_6 : w6.cell? ⟨w.heap.size + 1, 2, none⟩ = some (.slice p3' o.las.length q3') := KU_6.out.cell 2
        have cU_3_6 : w6.cell? ⟨w.heap.size + 1, 3, none⟩ = some (.slice p4' o.gts.length q4') := KU_6.out.cell 3
        go_wp2_with fail
        clear lT_6 cT_0_6 cT_1_6 cT_2_6 cT_3_6 lU_6 cU_0_6 cU_1_6 cU_2_6 cU_3_6
        have hd7 : Below w6.heap.size w6 w6.drew := (Below.refl _ _).drew
        have HS7 : Hid (∀ X : World, Below w6.heap.size w6 X → X.cell? ⟨w.heap.size, 0, none⟩ = some (.slice p1 c.ins.length q1) ∧ X.cell? ⟨w.heap.size, 1, none⟩ = some (.slice p2 c.outs.length q2) ∧ X.cell? ⟨w.heap.size, 2, none⟩ = some (.slice p3 c.las.length q3) ∧ X.cell? ⟨w.heap.size, 3, none⟩ = some (.slice p4 c.gts.length q4)) := Lib.hid fun X h => ⟨(h.cell (p := ⟨w.heap.size, 0, none⟩) KT_6.out.lt).trans (KT_6.out.cell 0), (h.cell (p := ⟨w.heap.size, 1, none⟩) KT_6.out.lt).trans (KT_6.out.cell 1), (h.cell (p := ⟨w.heap.size, 2, none⟩) KT_6.out.lt).trans (KT_6.out.cell 2), (h.cell (p := ⟨w.heap.size, 3, none⟩) KT_6.out.lt).trans (KT_6.out.cell 3)⟩
        obtain ⟨x7_0, x7_1, x7_2, x7_3⟩ := HS7.out _ hd7
        first | go_loud (go_region_held3 (fun X => X.cell? ⟨w.heap.size, 0, none⟩ = some (.slice p1 c.ins.length q1) ∧ X.cell? ⟨w.heap.size, 1, none⟩ = some (.slice p2 c.outs.length q2) ∧ X.cell? ⟨w.heap.size, 2, none⟩ = some (.slice p3 c.las.length q3) ∧ X.cell? ⟨w.heap.size, 3, none⟩ = some (.slice p4 c.gts.length q4) ∧ Below w6.heap.size w6 X) (go_keep)
          (first | (go_at_call 18; (with_reducible refine (nets_any c _ _ _ _ _ (C_6.out.below (by assumption)) BC.out.few).mono ?_); rintro e w7 ⟨V, rfl, nv, hb⟩; have rB7 := chain (a := w6) hb (by assumption); obtain ⟨x7_0, x7_1, x7_2, x7_3⟩ := HS7.out _ rB7; have nl := Lst.of_row nv; clear nv; obtain ⟨nb, nc, rfl⟩ := nl.slice; clear hb) | (go_at_call 19; (with_reducible refine (rnets_any c _ _ _ _ _ (C_6.out.below (by assumption)) BC.out.few).mono ?_); rintro e w7 ⟨V, rfl, mv, hb⟩; have rB7 := chain (a := w6) hb (by assumption); obtain ⟨x7_0, x7_1, x7_2, x7_3⟩ := HS7.out _ rB7; have ml := Lst.of_row mv; have nl2 := nl.below hb; clear mv; obtain ⟨mb, mc, rfl⟩ := ml.slice; clear hb) | (go_at_call 17; (with_reducible refine (texts_self (netsC c) _ _ _ BC.out.nets nl2 ml).mono ?_); rintro e w7 ⟨rfl, hb⟩; have rB7 := chain (a := w6) hb (by assumption); obtain ⟨x7_0, x7_1, x7_2, x7_3⟩ := HS7.out _ rB7; clear hb))) | fail
        have b7 : Below w6.heap.size w6 w7 := by assumption
        clear HS7
        have C_7 := Lib.hid (C_6.out.below b7)
        clear C_6
        have D_7 := Lib.hid (D_6.out.below b7)
        clear D_6
        have KT_7 := Lib.hid (KT_6.out.below b7 KT_6.out.lt)
        clear KT_6
        have KU_7 := Lib.hid (KU_6.out.below b7 KU_6.out.lt)
        clear KU_6
        have B_7 := Lib.hid (B_6.out.trans (b7.mono B_6.out.size))
        clear B_6
        try clear nl
        try clear nl2
        try clear ml
        have lT_7 : w.heap.size < w7.heap.size := KT_7.out.lt
        have cT_0_7 : w7.cell? ⟨w.heap.size, 0, none⟩ = some (.slice p1 c.ins.length q1) := KT_7.out.cell 0
        have cT_1_7 : w7.cell? ⟨w.heap.size, 1, none⟩ = some (.slice p2 c.outs.length q2) := KT_7.out.cell 1
        have cT_2_7 : w7.cell? ⟨w.heap.size, 2, none⟩ = some (.slice p3 c.las.length q3) := KT_7.out.cell 2
        have cT_3_7 : w7.cell? ⟨w.heap.size, 3, none⟩ = some (.slice p4 c.gts.length q4) := KT_7.out.cell 3
        have lU_7 : w.heap.size + 1 < w7.heap.size := KU_7.out.lt
        have cU_0_7 : w7.cell? ⟨w.heap.size + 1, 0, none⟩ = some (.slice p1' o.ins.length q1') := KU_7.out.cell 0
        have cU_1_7 : w7.cell? ⟨w.heap.size + 1, 1, none⟩ = some (.slice p2' o.outs.length q2') := KU_7.out.cell 1
        have cU_2_7 : w7.cell? ⟨w.heap.size + 1, 2, none⟩ = some (.slice p3' o.las.length q3') := KU_7.out.cell 2
        have cU_3_7 : w7.cell? ⟨w.heap.size + 1, 3, none⟩ = some (.slice p4' o.gts.length q4') := KU_7.out.cell 3
        go_wp2_with fail
        clear lT_7 cT_0_7 cT_1_7 cT_2_7 cT_3_7 lU_7 cU_0_7 cU_1_7 cU_2_7 cU_3_7
        refine (rplace_ex c _ _ _ _ s pl _ C_7.out BC.out.few HPL.out).mono ?_
        rintro e w8 ⟨rfl, b8⟩
        have C_8 := Lib.hid (C_7.out.below b8)
        clear C_7
        have D_8 := Lib.hid (D_7.out.below b8)
        clear D_7
        have KT_8 := Lib.hid (KT_7.out.below b8 KT_7.out.lt)
        clear KT_7
        have KU_8 := Lib.hid (KU_7.out.below b8 KU_7.out.lt)
        clear KU_7
        have B_8 := Lib.hid (B_7.out.trans (b8.mono B_7.out.size))
        clear B_7
        clear b8
        have lT_8 : w.heap.size < w8.heap.size := KT_8.out.lt
        have cT_0_8 : w8.cell? ⟨w.heap.size, 0, none⟩ = some (.slice p1 c.ins.length q1) := KT_8.out.cell 0
        have cT_1_8 : w8.cell? ⟨w.heap.size, 1, none⟩ = some (.slice p2 c.outs.length q2) := KT_8.out.cell 1
        have cT_2_8 : w8.cell? ⟨w.heap.size, 2, none⟩ = some (.slice p3 c.las.length q3) := KT_8.out.cell 2
        have cT_3_8 : w8.cell? ⟨w.heap.size, 3, none⟩ = some (.slice p4 c.gts.length q4) := KT_8.out.cell 3
        have lU_8 : w.heap.size + 1 < w8.heap.size := KU_8.out.lt
        have cU_0_8 : w8.cell? ⟨w.heap.size + 1, 0, none⟩ = some (.slice p1' o.ins.length q1') := KU_8.out.cell 0
        have cU_1_8 : w8.cell? ⟨w.heap.size + 1, 1, none⟩ = some (.slice p2' o.outs.length q2') := KU_8.out.cell 1
        have cU_2_8 : w8.cell? ⟨w.heap.size + 1, 2, none⟩ = some (.slice p3' o.las.length q3') := KU_8.out.cell 2
        have cU_3_8 : w8.cell? ⟨w.heap.size + 1, 3, none⟩ = some (.slice p4' o.gts.length q4') := KU_8.out.cell 3
        go_wp2_with fail
        clear lT_8 cT_0_8 cT_1_8 cT_2_8 cT_3_8 lU_8 cU_0_8 cU_1_8 cU_2_8 cU_3_8
        refine (rsame_ex c o _ _ _ _ _ _ _ _ sm _ C_8.out D_8.out BC.out BO.out HSM.out).mono ?_
        rintro e w9 ⟨rfl, b9⟩
        have C_9 := Lib.hid (C_8.out.below b9)
        clear C_8
        have D_9 := Lib.hid (D_8.out.below b9)
        clear D_8
        have KT_9 := Lib.hid (KT_8.out.below b9 KT_8.out.lt)
        clear KT_8
        have KU_9 := Lib.hid (KU_8.out.below b9 KU_8.out.lt)
        clear KU_8
        have B_9 := Lib.hid (B_8.out.trans (b9.mono B_8.out.size))
        clear B_8
        clear b9
        have lT_9 : w.heap.size < w9.heap.size := KT_9.out.lt
        have cT_0_9 : w9.cell? ⟨w.heap.size, 0, none⟩ = some (.slice p1 c.ins.length q1) := KT_9.out.cell 0
        have cT_1_9 : w9.cell? ⟨w.heap.size, 1, none⟩ = some (.slice p2 c.outs.length q2) := KT_9.out.cell 1
        have cT_2_9 : w9.cell? ⟨w.heap.size, 2, none⟩ = some (.slice p3 c.las.length q3) := KT_9.out.cell 2
        have cT_3_9 : w9.cell? ⟨w.heap.size, 3, none⟩ = some (.slice p4 c.gts.length q4) := KT_9.out.cell 3
        have lU_9 : w.heap.size + 1 < w9.heap.size := KU_9.out.lt
        have cU_0_9 : w9.cell? ⟨w.heap.size + 1, 0, none⟩ = some (.slice p1' o.ins.length q1') := KU_9.out.cell 0
        have cU_1_9 : w9.cell? ⟨w.heap.size + 1, 1, none⟩ = some (.slice p2' o.outs.length q2') := KU_9.out.cell 1
        have cU_2_9 : w9.cell? ⟨w.heap.size + 1, 2, none⟩ = some (.slice p3' o.las.length q3') := KU_9.out.cell 2
        have cU_3_9 : w9.cell? ⟨w.heap.size + 1, 3, none⟩ = some (.slice p4' o.gts.length q4') := KU_9.out.cell 3
        go_wp2_with fail
        clear lT_9 cT_0_9 cT_1_9 cT_2_9 cT_3_9 lU_9 cU_0_9 cU_1_9 cU_2_9 cU_3_9
        refine (place_ex c _ _ _ _ s pl _ C_9.out BC.out.few HPL.out).mono ?_
        rintro e w10 ⟨rfl, b10⟩
        have C_10 := Lib.hid (C_9.out.below b10)
        clear C_9
        have D_10 := Lib.hid (D_9.out.below b10)
        clear D_9
        have KT_10 := Lib.hid (KT_9.out.below b10 KT_9.out.lt)
        clear KT_9
        have KU_10 := Lib.hid (KU_9.out.below b10 KU_9.out.lt)
        clear KU_9
        have B_10 := Lib.hid (B_9.out.trans (b10.mono B_9.out.size))
        clear B_9
        clear b10
        have lT_10 : w.heap.size < w10.heap.size := KT_10.out.lt
        have cT_0_10 : w10.cell? ⟨w.heap.size, 0, none⟩ = some (.slice p1 c.ins.length q1) := KT_10.out.cell 0
        have cT_1_10 : w10.cell? ⟨w.heap.size, 1, none⟩ = some (.slice p2 c.outs.length q2) := KT_10.out.cell 1
        have cT_2_10 : w10.cell? ⟨w.heap.size, 2, none⟩ = some (.slice p3 c.las.length q3) := KT_10.out.cell 2
        have cT_3_10 : w10.cell? ⟨w.heap.size, 3, none⟩ = some (.slice p4 c.gts.length q4) := KT_10.out.cell 3
        have lU_10 : w.heap.size + 1 < w10.heap.size := KU_10.out.lt
        have cU_0_10 : w10.cell? ⟨w.heap.size + 1, 0, none⟩ = some (.slice p1' o.ins.length q1') := KU_10.out.cell 0
        have cU_1_10 : w10.cell? ⟨w.heap.size + 1, 1, none⟩ = some (.slice p2' o.outs.length q2') := KU_10.out.cell 1
        have cU_2_10 : w10.cell? ⟨w.heap.size + 1, 2, none⟩ = some (.slice p3' o.las.length q3') := KU_10.out.cell 2
        have cU_3_10 : w10.cell? ⟨w.heap.size + 1, 3, none⟩ = some (.slice p4' o.gts.length q4') := KU_10.out.cell 3
        go_wp2_with fail
        clear lT_10 cT_0_10 cT_1_10 cT_2_10 cT_3_10 lU_10 cU_0_10 cU_1_10 cU_2_10 cU_3_10
        refine (same_bx c o _ _ _ _ _ _ _ _ sm _ C_10.out D_10.out BC.out BO.out HSM.out).mono ?_
        rintro e w11 ⟨rfl, b11⟩
        have C_11 := Lib.hid (C_10.out.below b11)
        clear C_10
        have D_11 := Lib.hid (D_10.out.below b11)
        clear D_10
        have KT_11 := Lib.hid (KT_10.out.below b11 KT_10.out.lt)
        clear KT_10
        have KU_11 := Lib.hid (KU_10.out.below b11 KU_10.out.lt)
        clear KU_10
        have B_11 := Lib.hid (B_10.out.trans (b11.mono B_10.out.size))
        clear B_10
        clear b11
        go_wp2
        go_ret
        exact ⟨rfl, B_11.out⟩
end Go.Proofs.YtfkmolbcgnkfdaaDoor
