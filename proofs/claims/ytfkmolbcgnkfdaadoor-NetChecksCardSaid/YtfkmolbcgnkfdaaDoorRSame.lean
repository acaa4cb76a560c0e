/- Are netlists alike, as the document has it. -/
import Derived.Test.YtfkmolbcgnkfdaaDoorSameC
import Derived.Deep.RegionHeld3
namespace Go.Proofs.YtfkmolbcgnkfdaaDoor
open Go.RowKit
attribute [local go_sem] Oper.semAt_some
set_option maxRecDepth 100000
set_option maxHeartbeats 2000000

theorem FewG.get {l : List Gt} (h : FewG l) {g : Gt} (hg : g ∈ l) : g.ins.length ≤ 100000 ∧ g.rows.length ≤ 100000 := h g hg
theorem ci_las {c d : Ci} (h : c.las.length ≠ d.las.length) : ciEq c d = false := by
  unfold ciEq
  rw [eqL_len c.las d.las h]
  simp
theorem ci_gts {c d : Ci} (h : c.gts.length ≠ d.gts.length) : ciEq c d = false := by
  unfold ciEq
  rw [eqL_len c.gts d.gts h]
  simp

theorem rsame_any (c d : Ci) (a b l g a' b' l' g' : Value) (w : World) (h : Cir w a b l g c) (h' : Cir w a' b' l' g' d) (hf : Few c) (hf' : Few d) (hg : FewG c.gts) (hg' : FewG d.gts) :
    Calls Tryd.prog 21 #[.agg #[a, b, l, g], .agg #[a', b', l', g']] w fun e w' => e = .returned (.bool (ciEq c d)) ∧ Below w.heap.size w w' := by
  have H := Lib.hid h
  have H' := Lib.hid h'
  obtain ⟨pa, qa, pb, qb, pl, ql, pg, qg, rfl, rfl, rfl, rfl⟩ := h.slices
  obtain ⟨pa', qa', pb', qb', pl', ql', pg', qg', rfl, rfl, rfl, rfl⟩ := h'.slices
  have HF := Lib.hid hf
  have HF' := Lib.hid hf'
  have HG := Lib.hid hg
  have HG' := Lib.hid hg'
  clear h h' hf hf' hg hg'
  obtain ⟨b1, e1⟩ : ∃ q, eqL stEq c.ins d.ins = q := ⟨_, rfl⟩
  obtain ⟨b2, e2⟩ : ∃ q, eqL stEq c.outs d.outs = q := ⟨_, rfl⟩
  obtain ⟨b3, e3⟩ : ∃ q, eqL laEq c.las d.las = q := ⟨_, rfl⟩
  obtain ⟨b4, e4⟩ : ∃ q, eqL gtEq c.gts d.gts = q := ⟨_, rfl⟩
  have hci : ciEq c d = (b1 && (b2 && (b3 && b4))) := by unfold ciEq; rw [e1, e2, e3, e4]
  have hf3 := HF.out.las
  have hf4 := HF.out.gts
  have E1 := Lib.hid e1
  have E2 := Lib.hid e2
  have E3 := Lib.hid e3
  have E4 := Lib.hid e4
  clear e1 e2 e3 e4
  cases b1
  · rw [hci]
    clear hci
    go_enter Tryd.func21, Tryd.ntmps21
    go_wp2_with fail
    have a1 : Below w.heap.size w ((w.alloc (.cells #[.slice pa c.ins.length qa, .slice pb c.outs.length qb, .slice pl c.las.length ql, .slice pg c.gts.length qg] 26)).alloc (.cells #[.slice pa' d.ins.length qa', .slice pb' d.outs.length qb', .slice pl' d.las.length ql', .slice pg' d.gts.length qg'] 26)) := (((Below.refl w.heap.size w).alloc (by first | exact Nat.le_refl _ | (simp only [World.size_alloc]; omega)) (.cells #[.slice pa c.ins.length qa, .slice pb c.outs.length qb, .slice pl c.las.length ql, .slice pg c.gts.length qg] 26)).alloc (by first | exact Nat.le_refl _ | (simp only [World.size_alloc]; omega)) (.cells #[.slice pa' d.ins.length qa', .slice pb' d.outs.length qb', .slice pl' d.las.length ql', .slice pg' d.gts.length qg'] 26))
    have T_new0 := ((Blk.new w #[.slice pa c.ins.length qa, .slice pb c.outs.length qb, .slice pl c.las.length ql, .slice pg c.gts.length qg] 26).alloc (.cells #[.slice pa' d.ins.length qa', .slice pb' d.outs.length qb', .slice pl' d.las.length ql', .slice pg' d.gts.length qg'] 26))
    have KT_00 := Lib.hid T_new0
    clear T_new0
    have U_new0 := (Blk.new (w.alloc (.cells #[.slice pa c.ins.length qa, .slice pb c.outs.length qb, .slice pl c.las.length ql, .slice pg c.gts.length qg] 26)) #[.slice pa' d.ins.length qa', .slice pb' d.outs.length qb', .slice pl' d.las.length ql', .slice pg' d.gts.length qg'] 26)
    rw [World.size_alloc] at U_new0
    have KU_00 := Lib.hid U_new0
    clear U_new0
    have C_1 := Lib.hid (H.out.below a1)
    clear H
    have D_1 := Lib.hid (H'.out.below a1)
    clear H'
    have B_1 := Lib.hid a1
    clear a1
    generalize ((w.alloc (.cells #[.slice pa c.ins.length qa, .slice pb c.outs.length qb, .slice pl c.las.length ql, .slice pg c.gts.length qg] 26)).alloc (.cells #[.slice pa' d.ins.length qa', .slice pb' d.outs.length qb', .slice pl' d.las.length ql', .slice pg' d.gts.length qg'] 26)) = w1 at C_1 D_1 KT_00 KU_00 B_1 ⊢
    refine (texts_ex c.ins d.ins _ _ false _ HF.out.ins HF'.out.ins C_1.out.ins.lst D_1.out.ins.lst E1.out).mono ?_
    rintro e w2 ⟨rfl, b2⟩
    have C_2 := Lib.hid (C_1.out.below b2)
    clear C_1
    have D_2 := Lib.hid (D_1.out.below b2)
    clear D_1
    have KT_2 := Lib.hid (KT_00.out.below b2 KT_00.out.lt)
    clear KT_00
    have KU_2 := Lib.hid (KU_00.out.below b2 KU_00.out.lt)
    clear KU_00
    have B_2 := Lib.hid (B_1.out.trans (b2.mono B_1.out.size))
    clear B_1
    clear b2
    go_wp2
    go_ret
    exact ⟨rfl, B_2.out⟩
  · cases b2
    · rw [hci]
      clear hci
      go_enter Tryd.func21, Tryd.ntmps21
      go_wp2_with fail
      have a1 : Below w.heap.size w ((w.alloc (.cells #[.slice pa c.ins.length qa, .slice pb c.outs.length qb, .slice pl c.las.length ql, .slice pg c.gts.length qg] 26)).alloc (.cells #[.slice pa' d.ins.length qa', .slice pb' d.outs.length qb', .slice pl' d.las.length ql', .slice pg' d.gts.length qg'] 26)) := (((Below.refl w.heap.size w).alloc (by first | exact Nat.le_refl _ | (simp only [World.size_alloc]; omega)) (.cells #[.slice pa c.ins.length qa, .slice pb c.outs.length qb, .slice pl c.las.length ql, .slice pg c.gts.length qg] 26)).alloc (by first | exact Nat.le_refl _ | (simp only [World.size_alloc]; omega)) (.cells #[.slice pa' d.ins.length qa', .slice pb' d.outs.length qb', .slice pl' d.las.length ql', .slice pg' d.gts.length qg'] 26))
      have T_new0 := ((Blk.new w #[.slice pa c.ins.length qa, .slice pb c.outs.length qb, .slice pl c.las.length ql, .slice pg c.gts.length qg] 26).alloc (.cells #[.slice pa' d.ins.length qa', .slice pb' d.outs.length qb', .slice pl' d.las.length ql', .slice pg' d.gts.length qg'] 26))
      have KT_00 := Lib.hid T_new0
      clear T_new0
      have U_new0 := (Blk.new (w.alloc (.cells #[.slice pa c.ins.length qa, .slice pb c.outs.length qb, .slice pl c.las.length ql, .slice pg c.gts.length qg] 26)) #[.slice pa' d.ins.length qa', .slice pb' d.outs.length qb', .slice pl' d.las.length ql', .slice pg' d.gts.length qg'] 26)
      rw [World.size_alloc] at U_new0
      have KU_00 := Lib.hid U_new0
      clear U_new0
      have C_1 := Lib.hid (H.out.below a1)
      clear H
      have D_1 := Lib.hid (H'.out.below a1)
      clear H'
      have B_1 := Lib.hid a1
      clear a1
      generalize ((w.alloc (.cells #[.slice pa c.ins.length qa, .slice pb c.outs.length qb, .slice pl c.las.length ql, .slice pg c.gts.length qg] 26)).alloc (.cells #[.slice pa' d.ins.length qa', .slice pb' d.outs.length qb', .slice pl' d.las.length ql', .slice pg' d.gts.length qg'] 26)) = w1 at C_1 D_1 KT_00 KU_00 B_1 ⊢
      refine (texts_ex c.ins d.ins _ _ true _ HF.out.ins HF'.out.ins C_1.out.ins.lst D_1.out.ins.lst E1.out).mono ?_
      rintro e w2 ⟨rfl, b2⟩
      have C_2 := Lib.hid (C_1.out.below b2)
      clear C_1
      have D_2 := Lib.hid (D_1.out.below b2)
      clear D_1
      have KT_2 := Lib.hid (KT_00.out.below b2 KT_00.out.lt)
      clear KT_00
      have KU_2 := Lib.hid (KU_00.out.below b2 KU_00.out.lt)
      clear KU_00
      have B_2 := Lib.hid (B_1.out.trans (b2.mono B_1.out.size))
      clear B_1
      clear b2
      have lT_2 : w.heap.size < w2.heap.size := KT_2.out.lt
      have cT_0_2 : w2.cell? ⟨w.heap.size, 0, none⟩ = some (.slice pa c.ins.length qa) := KT_2.out.cell 0
      have cT_1_2 : w2.cell? ⟨w.heap.size, 1, none⟩ = some (.slice pb c.outs.length qb) := KT_2.out.cell 1
      have cT_2_2 : w2.cell? ⟨w.heap.size, 2, none⟩ = some (.slice pl c.las.length ql) := KT_2.out.cell 2
      have cT_3_2 : w2.cell? ⟨w.heap.size, 3, none⟩ = some (.slice pg c.gts.length qg) := KT_2.out.cell 3
      have lU_2 : w.heap.size + 1 < w2.heap.size := KU_2.out.lt
      have cU_0_2 : w2.cell? ⟨w.heap.size + 1, 0, none⟩ = some (.slice pa' d.ins.length qa') := KU_2.out.cell 0
      have cU_1_2 : w2.cell? ⟨w.heap.size + 1, 1, none⟩ = some (.slice pb' d.outs.length qb') := KU_2.out.cell 1
      have cU_2_2 : w2.cell? ⟨w.heap.size + 1, 2, none⟩ = some (.slice pl' d.las.length ql') := KU_2.out.cell 2
      have cU_3_2 : w2.cell? ⟨w.heap.size + 1, 3, none⟩ = some (.slice pg' d.gts.length qg') := KU_2.out.cell 3
      go_wp2_with fail
      clear lT_2 cT_0_2 cT_1_2 cT_2_2 cT_3_2 lU_2 cU_0_2 cU_1_2 cU_2_2 cU_3_2
      refine (texts_ex c.outs d.outs _ _ false _ HF.out.outs HF'.out.outs C_2.out.outs.lst D_2.out.outs.lst E2.out).mono ?_
      rintro e w3 ⟨rfl, b3⟩
      have C_3 := Lib.hid (C_2.out.below b3)
      clear C_2
      have D_3 := Lib.hid (D_2.out.below b3)
      clear D_2
      have KT_3 := Lib.hid (KT_2.out.below b3 KT_2.out.lt)
      clear KT_2
      have KU_3 := Lib.hid (KU_2.out.below b3 KU_2.out.lt)
      clear KU_2
      have B_3 := Lib.hid (B_2.out.trans (b3.mono B_2.out.size))
      clear B_2
      clear b3
      go_wp2
      go_ret
      exact ⟨rfl, B_3.out⟩
    · by_cases hn3 : c.las.length ≠ d.las.length
      · rw [ci_las hn3]
        have hnb : ((c.las.length : Int) != (d.las.length : Int)) = true := by rw [bne_iff_ne]; omega
        clear hci hn3
        go_enter Tryd.func21, Tryd.ntmps21
        go_wp2_with fail
        have a1 : Below w.heap.size w ((w.alloc (.cells #[.slice pa c.ins.length qa, .slice pb c.outs.length qb, .slice pl c.las.length ql, .slice pg c.gts.length qg] 26)).alloc (.cells #[.slice pa' d.ins.length qa', .slice pb' d.outs.length qb', .slice pl' d.las.length ql', .slice pg' d.gts.length qg'] 26)) := (((Below.refl w.heap.size w).alloc (by first | exact Nat.le_refl _ | (simp only [World.size_alloc]; omega)) (.cells #[.slice pa c.ins.length qa, .slice pb c.outs.length qb, .slice pl c.las.length ql, .slice pg c.gts.length qg] 26)).alloc (by first | exact Nat.le_refl _ | (simp only [World.size_alloc]; omega)) (.cells #[.slice pa' d.ins.length qa', .slice pb' d.outs.length qb', .slice pl' d.las.length ql', .slice pg' d.gts.length qg'] 26))
        have T_new0 := ((Blk.new w #[.slice pa c.ins.length qa, .slice pb c.outs.length qb, .slice pl c.las.length ql, .slice pg c.gts.length qg] 26).alloc (.cells #[.slice pa' d.ins.length qa', .slice pb' d.outs.length qb', .slice pl' d.las.length ql', .slice pg' d.gts.length qg'] 26))
        have KT_00 := Lib.hid T_new0
        clear T_new0
        have U_new0 := (Blk.new (w.alloc (.cells #[.slice pa c.ins.length qa, .slice pb c.outs.length qb, .slice pl c.las.length ql, .slice pg c.gts.length qg] 26)) #[.slice pa' d.ins.length qa', .slice pb' d.outs.length qb', .slice pl' d.las.length ql', .slice pg' d.gts.length qg'] 26)
        rw [World.size_alloc] at U_new0
        have KU_00 := Lib.hid U_new0
        clear U_new0
        have C_1 := Lib.hid (H.out.below a1)
        clear H
        have D_1 := Lib.hid (H'.out.below a1)
        clear H'
        have B_1 := Lib.hid a1
        clear a1
        generalize ((w.alloc (.cells #[.slice pa c.ins.length qa, .slice pb c.outs.length qb, .slice pl c.las.length ql, .slice pg c.gts.length qg] 26)).alloc (.cells #[.slice pa' d.ins.length qa', .slice pb' d.outs.length qb', .slice pl' d.las.length ql', .slice pg' d.gts.length qg'] 26)) = w1 at C_1 D_1 KT_00 KU_00 B_1 ⊢
        refine (texts_ex c.ins d.ins _ _ true _ HF.out.ins HF'.out.ins C_1.out.ins.lst D_1.out.ins.lst E1.out).mono ?_
        rintro e w2 ⟨rfl, b2⟩
        have C_2 := Lib.hid (C_1.out.below b2)
        clear C_1
        have D_2 := Lib.hid (D_1.out.below b2)
        clear D_1
        have KT_2 := Lib.hid (KT_00.out.below b2 KT_00.out.lt)
        clear KT_00
        have KU_2 := Lib.hid (KU_00.out.below b2 KU_00.out.lt)
        clear KU_00
        have B_2 := Lib.hid (B_1.out.trans (b2.mono B_1.out.size))
        clear B_1
        clear b2
        have lT_2 : w.heap.size < w2.heap.size := KT_2.out.lt
        have cT_0_2 : w2.cell? ⟨w.heap.size, 0, none⟩ = some (.slice pa c.ins.length qa) := KT_2.out.cell 0
        have cT_1_2 : w2.cell? ⟨w.heap.size, 1, none⟩ = some (.slice pb c.outs.length qb) := KT_2.out.cell 1
        have cT_2_2 : w2.cell? ⟨w.heap.size, 2, none⟩ = some (.slice pl c.las.length ql) := KT_2.out.cell 2
        have cT_3_2 : w2.cell? ⟨w.heap.size, 3, none⟩ = some (.slice pg c.gts.length qg) := KT_2.out.cell 3
        have lU_2 : w.heap.size + 1 < w2.heap.size := KU_2.out.lt
        have cU_0_2 : w2.cell? ⟨w.heap.size + 1, 0, none⟩ = some (.slice pa' d.ins.length qa') := KU_2.out.cell 0
        have cU_1_2 : w2.cell? ⟨w.heap.size + 1, 1, none⟩ = some (.slice pb' d.outs.length qb') := KU_2.out.cell 1
        have cU_2_2 : w2.cell? ⟨w.heap.size + 1, 2, none⟩ = some (.slice pl' d.las.length ql') := KU_2.out.cell 2
        have cU_3_2 : w2.cell? ⟨w.heap.size + 1, 3, none⟩ = some (.slice pg' d.gts.length qg') := KU_2.out.cell 3
        go_wp2_with fail
        clear lT_2 cT_0_2 cT_1_2 cT_2_2 cT_3_2 lU_2 cU_0_2 cU_1_2 cU_2_2 cU_3_2
        refine (texts_ex c.outs d.outs _ _ true _ HF.out.outs HF'.out.outs C_2.out.outs.lst D_2.out.outs.lst E2.out).mono ?_
        rintro e w3 ⟨rfl, b3⟩
        have C_3 := Lib.hid (C_2.out.below b3)
        clear C_2
        have D_3 := Lib.hid (D_2.out.below b3)
        clear D_2
        have KT_3 := Lib.hid (KT_2.out.below b3 KT_2.out.lt)
        clear KT_2
        have KU_3 := Lib.hid (KU_2.out.below b3 KU_2.out.lt)
        clear KU_2
        have B_3 := Lib.hid (B_2.out.trans (b3.mono B_2.out.size))
        clear B_2
        clear b3
        have lT_3 : w.heap.size < w3.heap.size := KT_3.out.lt
        have cT_0_3 : w3.cell? ⟨w.heap.size, 0, none⟩ = some (.slice pa c.ins.length qa) := KT_3.out.cell 0
        have cT_1_3 : w3.cell? ⟨w.heap.size, 1, none⟩ = some (.slice pb c.outs.length qb) := KT_3.out.cell 1
        have cT_2_3 : w3.cell? ⟨w.heap.size, 2, none⟩ = some (.slice pl c.las.length ql) := KT_3.out.cell 2
        have cT_3_3 : w3.cell? ⟨w.heap.size, 3, none⟩ = some (.slice pg c.gts.length qg) := KT_3.out.cell 3
        have lU_3 : w.heap.size + 1 < w3.heap.size := KU_3.out.lt
        have cU_0_3 : w3.cell? ⟨w.heap.size + 1, 0, none⟩ = some (.slice pa' d.ins.length qa') := KU_3.out.cell 0
        have cU_1_3 : w3.cell? ⟨w.heap.size + 1, 1, none⟩ = some (.slice pb' d.outs.length qb') := KU_3.out.cell 1
        have cU_2_3 : w3.cell? ⟨w.heap.size + 1, 2, none⟩ = some (.slice pl' d.las.length ql') := KU_3.out.cell 2
        have cU_3_3 : w3.cell? ⟨w.heap.size + 1, 3, none⟩ = some (.slice pg' d.gts.length qg') := KU_3.out.cell 3
        go_wp2
        go_ret
        exact ⟨rfl, B_3.out⟩
      · have h3 : d.las.length = c.las.length := by omega
        have hnb : ((c.las.length : Int) != (d.las.length : Int)) = false := by rw [h3]; simp
        by_cases hn4 : c.gts.length ≠ d.gts.length
        · rw [ci_gts hn4]
          have hnb' : ((c.gts.length : Int) != (d.gts.length : Int)) = true := by rw [bne_iff_ne]; omega
          clear hci hn3 hn4 h3
          go_enter Tryd.func21, Tryd.ntmps21
          go_wp2_with fail
          have a1 : Below w.heap.size w ((w.alloc (.cells #[.slice pa c.ins.length qa, .slice pb c.outs.length qb, .slice pl c.las.length ql, .slice pg c.gts.length qg] 26)).alloc (.cells #[.slice pa' d.ins.length qa', .slice pb' d.outs.length qb', .slice pl' d.las.length ql', .slice pg' d.gts.length qg'] 26)) := (((Below.refl w.heap.size w).alloc (by first | exact Nat.le_refl _ | (simp only [World.size_alloc]; omega)) (.cells #[.slice pa c.ins.length qa, .slice pb c.outs.length qb, .slice pl c.las.length ql, .slice pg c.gts.length qg] 26)).alloc (by first | exact Nat.le_refl _ | (simp only [World.size_alloc]; omega)) (.cells #[.slice pa' d.ins.length qa', .slice pb' d.outs.length qb', .slice pl' d.las.length ql', .slice pg' d.gts.length qg'] 26))
          have T_new0 := ((Blk.new w #[.slice pa c.ins.length qa, .slice pb c.outs.length qb, .slice pl c.las.length ql, .slice pg c.gts.length qg] 26).alloc (.cells #[.slice pa' d.ins.length qa', .slice pb' d.outs.length qb', .slice pl' d.las.length ql', .slice pg' d.gts.length qg'] 26))
          have KT_00 := Lib.hid T_new0
          clear T_new0
          have U_new0 := (Blk.new (w.alloc (.cells #[.slice pa c.ins.length qa, .slice pb c.outs.length qb, .slice pl c.las.length ql, .slice pg c.gts.length qg] 26)) #[.slice pa' d.ins.length qa', .slice pb' d.outs.length qb', .slice pl' d.las.length ql', .slice pg' d.gts.length qg'] 26)
          rw [World.size_alloc] at U_new0
          have KU_00 := Lib.hid U_new0
          clear U_new0
          have C_1 := Lib.hid (H.out.below a1)
          clear H
          have D_1 := Lib.hid (H'.out.below a1)
          clear H'
          have B_1 := Lib.hid a1
          clear a1
          generalize ((w.alloc (.cells #[.slice pa c.ins.length qa, .slice pb c.outs.length qb, .slice pl c.las.length ql, .slice pg c.gts.length qg] 26)).alloc (.cells #[.slice pa' d.ins.length qa', .slice pb' d.outs.length qb', .slice pl' d.las.length ql', .slice pg' d.gts.length qg'] 26)) = w1 at C_1 D_1 KT_00 KU_00 B_1 ⊢
          refine (texts_ex c.ins d.ins _ _ true _ HF.out.ins HF'.out.ins C_1.out.ins.lst D_1.out.ins.lst E1.out).mono ?_
          rintro e w2 ⟨rfl, b2⟩
          have C_2 := Lib.hid (C_1.out.below b2)
          clear C_1
          have D_2 := Lib.hid (D_1.out.below b2)
          clear D_1
          have KT_2 := Lib.hid (KT_00.out.below b2 KT_00.out.lt)
          clear KT_00
          have KU_2 := Lib.hid (KU_00.out.below b2 KU_00.out.lt)
          clear KU_00
          have B_2 := Lib.hid (B_1.out.trans (b2.mono B_1.out.size))
          clear B_1
          clear b2
          have lT_2 : w.heap.size < w2.heap.size := KT_2.out.lt
          have cT_0_2 : w2.cell? ⟨w.heap.size, 0, none⟩ = some (.slice pa c.ins.length qa) := KT_2.out.cell 0
          have cT_1_2 : w2.cell? ⟨w.heap.size, 1, none⟩ = some (.slice pb c.outs.length qb) := KT_2.out.cell 1
          have cT_2_2 : w2.cell? ⟨w.heap.size, 2, none⟩ = some (.slice pl c.las.length ql) := KT_2.out.cell 2
          have cT_3_2 : w2.cell? ⟨w.heap.size, 3, none⟩ = some (.slice pg c.gts.length qg) := KT_2.out.cell 3
          have lU_2 : w.heap.size + 1 < w2.heap.size := KU_2.out.lt
          have cU_0_2 : w2.cell? ⟨w.heap.size + 1, 0, none⟩ = some (.slice pa' d.ins.length qa') := KU_2.out.cell 0
          have cU_1_2 : w2.cell? ⟨w.heap.size + 1, 1, none⟩ = some (.slice pb' d.outs.length qb') := KU_2.out.cell 1
          have cU_2_2 : w2.cell? ⟨w.heap.size + 1, 2, none⟩ = some (.slice pl' d.las.length ql') := KU_2.out.cell 2
          have cU_3_2 : w2.cell? ⟨w.heap.size + 1, 3, none⟩ = some (.slice pg' d.gts.length qg') := KU_2.out.cell 3
          go_wp2_with fail
          clear lT_2 cT_0_2 cT_1_2 cT_2_2 cT_3_2 lU_2 cU_0_2 cU_1_2 cU_2_2 cU_3_2
          refine (texts_ex c.outs d.outs _ _ true _ HF.out.outs HF'.out.outs C_2.out.outs.lst D_2.out.outs.lst E2.out).mono ?_
          rintro e w3 ⟨rfl, b3⟩
          have C_3 := Lib.hid (C_2.out.below b3)
          clear C_2
          have D_3 := Lib.hid (D_2.out.below b3)
          clear D_2
          have KT_3 := Lib.hid (KT_2.out.below b3 KT_2.out.lt)
          clear KT_2
          have KU_3 := Lib.hid (KU_2.out.below b3 KU_2.out.lt)
          clear KU_2
          have B_3 := Lib.hid (B_2.out.trans (b3.mono B_2.out.size))
          clear B_2
          clear b3
          have lT_3 : w.heap.size < w3.heap.size := KT_3.out.lt
          have cT_0_3 : w3.cell? ⟨w.heap.size, 0, none⟩ = some (.slice pa c.ins.length qa) := KT_3.out.cell 0
          have cT_1_3 : w3.cell? ⟨w.heap.size, 1, none⟩ = some (.slice pb c.outs.length qb) := KT_3.out.cell 1
          have cT_2_3 : w3.cell? ⟨w.heap.size, 2, none⟩ = some (.slice pl c.las.length ql) := KT_3.out.cell 2
          have cT_3_3 : w3.cell? ⟨w.heap.size, 3, none⟩ = some (.slice pg c.gts.length qg) := KT_3.out.cell 3
          have lU_3 : w.heap.size + 1 < w3.heap.size := KU_3.out.lt
          have cU_0_3 : w3.cell? ⟨w.heap.size + 1, 0, none⟩ = some (.slice pa' d.ins.length qa') := KU_3.out.cell 0
          have cU_1_3 : w3.cell? ⟨w.heap.size + 1, 1, none⟩ = some (.slice pb' d.outs.length qb') := KU_3.out.cell 1
          have cU_2_3 : w3.cell? ⟨w.heap.size + 1, 2, none⟩ = some (.slice pl' d.las.length ql') := KU_3.out.cell 2
          have cU_3_3 : w3.cell? ⟨w.heap.size + 1, 3, none⟩ = some (.slice pg' d.gts.length qg') := KU_3.out.cell 3
          go_wp2
          go_ret
          exact ⟨rfl, B_3.out⟩
        · have h4 : d.gts.length = c.gts.length := by omega
          have hnb' : ((c.gts.length : Int) != (d.gts.length : Int)) = false := by rw [h4]; simp
          rw [hci]
          have H3 := Lib.hid h3
          have H4 := Lib.hid h4
          clear hci hn3 hn4 h3 h4
          go_enter Tryd.func21, Tryd.ntmps21
          go_wp2_with fail
          have a1 : Below w.heap.size w ((w.alloc (.cells #[.slice pa c.ins.length qa, .slice pb c.outs.length qb, .slice pl c.las.length ql, .slice pg c.gts.length qg] 26)).alloc (.cells #[.slice pa' d.ins.length qa', .slice pb' d.outs.length qb', .slice pl' d.las.length ql', .slice pg' d.gts.length qg'] 26)) := (((Below.refl w.heap.size w).alloc (by first | exact Nat.le_refl _ | (simp only [World.size_alloc]; omega)) (.cells #[.slice pa c.ins.length qa, .slice pb c.outs.length qb, .slice pl c.las.length ql, .slice pg c.gts.length qg] 26)).alloc (by first | exact Nat.le_refl _ | (simp only [World.size_alloc]; omega)) (.cells #[.slice pa' d.ins.length qa', .slice pb' d.outs.length qb', .slice pl' d.las.length ql', .slice pg' d.gts.length qg'] 26))
          have T_new0 := ((Blk.new w #[.slice pa c.ins.length qa, .slice pb c.outs.length qb, .slice pl c.las.length ql, .slice pg c.gts.length qg] 26).alloc (.cells #[.slice pa' d.ins.length qa', .slice pb' d.outs.length qb', .slice pl' d.las.length ql', .slice pg' d.gts.length qg'] 26))
          have KT_00 := Lib.hid T_new0
          clear T_new0
          have U_new0 := (Blk.new (w.alloc (.cells #[.slice pa c.ins.length qa, .slice pb c.outs.length qb, .slice pl c.las.length ql, .slice pg c.gts.length qg] 26)) #[.slice pa' d.ins.length qa', .slice pb' d.outs.length qb', .slice pl' d.las.length ql', .slice pg' d.gts.length qg'] 26)
          rw [World.size_alloc] at U_new0
          have KU_00 := Lib.hid U_new0
          clear U_new0
          have C_1 := Lib.hid (H.out.below a1)
          clear H
          have D_1 := Lib.hid (H'.out.below a1)
          clear H'
          have B_1 := Lib.hid a1
          clear a1
          generalize ((w.alloc (.cells #[.slice pa c.ins.length qa, .slice pb c.outs.length qb, .slice pl c.las.length ql, .slice pg c.gts.length qg] 26)).alloc (.cells #[.slice pa' d.ins.length qa', .slice pb' d.outs.length qb', .slice pl' d.las.length ql', .slice pg' d.gts.length qg'] 26)) = w1 at C_1 D_1 KT_00 KU_00 B_1 ⊢
          refine (texts_ex c.ins d.ins _ _ true _ HF.out.ins HF'.out.ins C_1.out.ins.lst D_1.out.ins.lst E1.out).mono ?_
          rintro e w2 ⟨rfl, b2⟩
          have C_2 := Lib.hid (C_1.out.below b2)
          clear C_1
          have D_2 := Lib.hid (D_1.out.below b2)
          clear D_1
          have KT_2 := Lib.hid (KT_00.out.below b2 KT_00.out.lt)
          clear KT_00
          have KU_2 := Lib.hid (KU_00.out.below b2 KU_00.out.lt)
          clear KU_00
          have B_2 := Lib.hid (B_1.out.trans (b2.mono B_1.out.size))
          clear B_1
          clear b2
          have lT_2 : w.heap.size < w2.heap.size := KT_2.out.lt
          have cT_0_2 : w2.cell? ⟨w.heap.size, 0, none⟩ = some (.slice pa c.ins.length qa) := KT_2.out.cell 0
          have cT_1_2 : w2.cell? ⟨w.heap.size, 1, none⟩ = some (.slice pb c.outs.length qb) := KT_2.out.cell 1
          have cT_2_2 : w2.cell? ⟨w.heap.size, 2, none⟩ = some (.slice pl c.las.length ql) := KT_2.out.cell 2
          have cT_3_2 : w2.cell? ⟨w.heap.size, 3, none⟩ = some (.slice pg c.gts.length qg) := KT_2.out.cell 3
          have lU_2 : w.heap.size + 1 < w2.heap.size := KU_2.out.lt
          have cU_0_2 : w2.cell? ⟨w.heap.size + 1, 0, none⟩ = some (.slice pa' d.ins.length qa') := KU_2.out.cell 0
          have cU_1_2 : w2.cell? ⟨w.heap.size + 1, 1, none⟩ = some (.slice pb' d.outs.length qb') := KU_2.out.cell 1
          have cU_2_2 : w2.cell? ⟨w.heap.size + 1, 2, none⟩ = some (.slice pl' d.las.length ql') := KU_2.out.cell 2
          have cU_3_2 : w2.cell? ⟨w.heap.size + 1, 3, none⟩ = some (.slice pg' d.gts.length qg') := KU_2.out.cell 3
          go_wp2_with fail
          clear lT_2 cT_0_2 cT_1_2 cT_2_2 cT_3_2 lU_2 cU_0_2 cU_1_2 cU_2_2 cU_3_2
          refine (texts_ex c.outs d.outs _ _ true _ HF.out.outs HF'.out.outs C_2.out.outs.lst D_2.out.outs.lst E2.out).mono ?_
          rintro e w3 ⟨rfl, b3⟩
          have C_3 := Lib.hid (C_2.out.below b3)
          clear C_2
          have D_3 := Lib.hid (D_2.out.below b3)
          clear D_2
          have KT_3 := Lib.hid (KT_2.out.below b3 KT_2.out.lt)
          clear KT_2
          have KU_3 := Lib.hid (KU_2.out.below b3 KU_2.out.lt)
          clear KU_2
          have B_3 := Lib.hid (B_2.out.trans (b3.mono B_2.out.size))
          clear B_2
          clear b3
          have C_s := C_3
          have D_s := D_3
          have KT_s := KT_3
          have KU_s := KU_3
          have B_s := B_3
          have Qs_0 := Lib.hid (Below.refl w3.heap.size w3)
          have lT_3 : w.heap.size < w3.heap.size := KT_3.out.lt
          have cT_0_3 : w3.cell? ⟨w.heap.size, 0, none⟩ = some (.slice pa c.ins.length qa) := KT_3.out.cell 0
          have cT_1_3 : w3.cell? ⟨w.heap.size, 1, none⟩ = some (.slice pb c.outs.length qb) := KT_3.out.cell 1
          have cT_2_3 : w3.cell? ⟨w.heap.size, 2, none⟩ = some (.slice pl c.las.length ql) := KT_3.out.cell 2
          have cT_3_3 : w3.cell? ⟨w.heap.size, 3, none⟩ = some (.slice pg c.gts.length qg) := KT_3.out.cell 3
          have lU_3 : w.heap.size + 1 < w3.heap.size := KU_3.out.lt
          have cU_0_3 : w3.cell? ⟨w.heap.size + 1, 0, none⟩ = some (.slice pa' d.ins.length qa') := KU_3.out.cell 0
          have cU_1_3 : w3.cell? ⟨w.heap.size + 1, 1, none⟩ = some (.slice pb' d.outs.length qb') := KU_3.out.cell 1
          have cU_2_3 : w3.cell? ⟨w.heap.size + 1, 2, none⟩ = some (.slice pl' d.las.length ql') := KU_3.out.cell 2
          have cU_3_3 : w3.cell? ⟨w.heap.size + 1, 3, none⟩ = some (.slice pg' d.gts.length qg') := KU_3.out.cell 3
          go_wp2
          clear hnb hnb'
          clear lT_3 cT_0_3 cT_1_3 cT_2_3 cT_3_3 lU_3 cU_0_3 cU_1_3 cU_2_3 cU_3_3
          go_loopw [5] (fun i wr => ∃ k : Nat, k ≤ c.las.length ∧ i = .int .i64 (k : Int) ∧ Below w3.heap.size w3 wr ∧ Hid (∀ j x y, j < k → c.las[j]? = some x → d.las[j]? = some y → laEq x y = true)) (fun i _ => c.las.length - (intOf i).toNat)
          case atStart => exact ⟨0, by omega, rfl, Qs_0.out, Lib.hid fun j x y h => absurd h (by omega)⟩
          case round =>
            obtain ⟨k, hk, rfl, hB, hall⟩ := hrel
            clear C_3 D_3 Qs_0 KT_3 KU_3 B_3
            have C_sr := Lib.hid (C_s.out.below hB)
            have D_sr := Lib.hid (D_s.out.below hB)
            have KT_sr := Lib.hid (KT_s.out.below hB KT_s.out.lt)
            have KU_sr := Lib.hid (KU_s.out.below hB KU_s.out.lt)
            have B_sr := Lib.hid (B_s.out.trans (hB.mono B_s.out.size))
            have Qsr := Lib.hid hB
            clear hB
            by_cases hlt : k < c.las.length
            · have hlt' : (k : Int) < (c.las.length : Int) := by omega
              obtain ⟨eg, eo, ec, ex, hx, hv, hg, c0, c1, c2⟩ := C_sr.out.las.at_ hlt
              obtain ⟨eg', eo', ec', ey, hy, hv', hg', d0, d1, d2⟩ := D_sr.out.las.at_ (k := k) (by rw [H3.out]; exact hlt)
              injection hv with e1 e2 e3
              subst e1 e3
              injection hv' with e1 e2 e3
              subst e1 e3
              have HX := Lib.hid hx
              have HY := Lib.hid hy
              clear hx hy e2
              have hdl : (d.las.length : Int) = (c.las.length : Int) := by rw [H3.out]
              have hlt2 : (k : Int) < (d.las.length : Int) := by omega
              clear hdl
              have lT_0 : w.heap.size < wr.heap.size := KT_sr.out.lt
              have cT_0_0 : wr.cell? ⟨w.heap.size, 0, none⟩ = some (.slice pa c.ins.length qa) := KT_sr.out.cell 0
              have cT_1_0 : wr.cell? ⟨w.heap.size, 1, none⟩ = some (.slice pb c.outs.length qb) := KT_sr.out.cell 1
              have cT_2_0 : wr.cell? ⟨w.heap.size, 2, none⟩ = some (.slice (some ⟨eg, eo, none⟩) c.las.length ql) := KT_sr.out.cell 2
              have cT_3_0 : wr.cell? ⟨w.heap.size, 3, none⟩ = some (.slice pg c.gts.length qg) := KT_sr.out.cell 3
              have lU_0 : w.heap.size + 1 < wr.heap.size := KU_sr.out.lt
              have cU_0_0 : wr.cell? ⟨w.heap.size + 1, 0, none⟩ = some (.slice pa' d.ins.length qa') := KU_sr.out.cell 0
              have cU_1_0 : wr.cell? ⟨w.heap.size + 1, 1, none⟩ = some (.slice pb' d.outs.length qb') := KU_sr.out.cell 1
              have cU_2_0 : wr.cell? ⟨w.heap.size + 1, 2, none⟩ = some (.slice (some ⟨eg', eo', none⟩) d.las.length ql') := KU_sr.out.cell 2
              have cU_3_0 : wr.cell? ⟨w.heap.size + 1, 3, none⟩ = some (.slice pg' d.gts.length qg') := KU_sr.out.cell 3
              have hg58 := guard58
              cases hxy : laEq ex ey
              · have hneq := neq58 ex ey
                rw [hxy] at hneq
                obtain rfl : b3 = false := by rw [← E3.out]; exact eqL_no c.las d.las k ex ey HX.out HY.out hxy
                clear hxy hall E3
                go_wp2_with fail
                go_quiet (fail)
                go_wp2
                go_ret
                exact ⟨rfl, below_drewN B_sr.out _⟩
              · have hneq := neq58 ex ey
                rw [hxy] at hneq
                have HN := Lib.hid (eqL_next hall.out HX.out HY.out hxy)
                clear hxy hall
                go_wp2_with fail
                go_quiet (fail)
                go_wp2
                refine ⟨⟨k + 1, by omega, by go_num, below_drewN Qsr.out _, HN⟩, ?_⟩
                simp [intOf]; omega
            · have hge : (c.las.length : Int) ≤ (k : Int) := by omega
              obtain rfl : b3 = true := by rw [← E3.out]; exact eqL_all c.las d.las H3.out.symm (fun j x y h1 h2 => hall.out j x y (by have := (List.getElem?_eq_some_iff.1 h1).1; omega) h1 h2)
              clear hall E3
              have C_t := C_sr
              have D_t := D_sr
              have Qs_t := Qsr
              have KT_t := KT_sr
              have KU_t := KU_sr
              have B_t := B_sr
              have Qt_0 := Lib.hid (Below.refl wr.heap.size wr)
              have lT_0 : w.heap.size < wr.heap.size := KT_sr.out.lt
              have cT_0_0 : wr.cell? ⟨w.heap.size, 0, none⟩ = some (.slice pa c.ins.length qa) := KT_sr.out.cell 0
              have cT_1_0 : wr.cell? ⟨w.heap.size, 1, none⟩ = some (.slice pb c.outs.length qb) := KT_sr.out.cell 1
              have cT_2_0 : wr.cell? ⟨w.heap.size, 2, none⟩ = some (.slice pl c.las.length ql) := KT_sr.out.cell 2
              have cT_3_0 : wr.cell? ⟨w.heap.size, 3, none⟩ = some (.slice pg c.gts.length qg) := KT_sr.out.cell 3
              have lU_0 : w.heap.size + 1 < wr.heap.size := KU_sr.out.lt
              have cU_0_0 : wr.cell? ⟨w.heap.size + 1, 0, none⟩ = some (.slice pa' d.ins.length qa') := KU_sr.out.cell 0
              have cU_1_0 : wr.cell? ⟨w.heap.size + 1, 1, none⟩ = some (.slice pb' d.outs.length qb') := KU_sr.out.cell 1
              have cU_2_0 : wr.cell? ⟨w.heap.size + 1, 2, none⟩ = some (.slice pl' d.las.length ql') := KU_sr.out.cell 2
              have cU_3_0 : wr.cell? ⟨w.heap.size + 1, 3, none⟩ = some (.slice pg' d.gts.length qg') := KU_sr.out.cell 3
              go_wp2
              clear lT_0 cT_0_0 cT_1_0 cT_2_0 cT_3_0 lU_0 cU_0_0 cU_1_0 cU_2_0 cU_3_0
              go_loopw [6] (fun i wq => ∃ j : Nat, j ≤ c.gts.length ∧ i = .int .i64 (j : Int) ∧ Below wr.heap.size wr wq ∧ Hid (∀ i x y, i < j → c.gts[i]? = some x → d.gts[i]? = some y → gtEq x y = true)) (fun i _ => c.gts.length - (intOf i).toNat)
              case atStart => exact ⟨0, by omega, rfl, Qt_0.out, Lib.hid fun j x y h => absurd h (by omega)⟩
              case round =>
                obtain ⟨j, hj, rfl, hB, hall⟩ := hrel
                clear C_sr D_sr Qsr Qt_0 KT_sr KU_sr B_sr
                have C_tr := Lib.hid (C_t.out.below hB)
                have D_tr := Lib.hid (D_t.out.below hB)
                have Qs_tr := Lib.hid (Qs_t.out.trans (hB.mono Qs_t.out.size))
                have KT_tr := Lib.hid (KT_t.out.below hB KT_t.out.lt)
                have KU_tr := Lib.hid (KU_t.out.below hB KU_t.out.lt)
                have B_tr := Lib.hid (B_t.out.trans (hB.mono B_t.out.size))
                have Qtr := Lib.hid hB
                clear hB
                by_cases hlt : j < c.gts.length
                · have hlt' : (j : Int) < (c.gts.length : Int) := by omega
                  obtain ⟨eg, eo, ec, ex, er, hx, ha, hv, hg, c0, c1, c2, c3, c4⟩ := C_tr.out.gts.at_ hlt
                  obtain ⟨eg', eo', ec', ey, er2, hy, ha', hv', hg', d0, d1, d2, d3, d4⟩ := D_tr.out.gts.at_ (k := j) (by rw [H4.out]; exact hlt)
                  injection hv with e1 e2 e3
                  subst e1 e3
                  injection hv' with e1 e2 e3
                  subst e1 e3
                  obtain ⟨p1, q1, i1⟩ := ha.ins.lst.slice
                  obtain ⟨p2, q2, i2⟩ := ha.rows.lst.slice
                  obtain ⟨p3, q3, i3⟩ := ha'.ins.lst.slice
                  obtain ⟨p4, q4, i4⟩ := ha'.rows.lst.slice
                  have HI1 := Lib.hid ha.ins
                  have HI2 := Lib.hid ha.rows
                  have HI3 := Lib.hid ha'.ins
                  have HI4 := Lib.hid ha'.rows
                  rw [i1] at c2 HI1
                  rw [i2] at c3 HI2
                  rw [i3] at d2 HI3
                  rw [i4] at d3 HI4
                  have HX := Lib.hid hx
                  have HY := Lib.hid hy
                  have hlt2 : (j : Int) < (d.gts.length : Int) := by rw [H4.out]; omega
                  obtain ⟨q, hq⟩ : ∃ q, gtEq ex ey = q := ⟨_, rfl⟩
                  have HQ := Lib.hid hq
                  clear hx hy ha ha' i1 i2 i3 i4 hq e2
                  have lT_0 : w.heap.size < wr.heap.size := KT_tr.out.lt
                  have cT_0_0 : wr.cell? ⟨w.heap.size, 0, none⟩ = some (.slice pa c.ins.length qa) := KT_tr.out.cell 0
                  have cT_1_0 : wr.cell? ⟨w.heap.size, 1, none⟩ = some (.slice pb c.outs.length qb) := KT_tr.out.cell 1
                  have cT_2_0 : wr.cell? ⟨w.heap.size, 2, none⟩ = some (.slice pl c.las.length ql) := KT_tr.out.cell 2
                  have cT_3_0 : wr.cell? ⟨w.heap.size, 3, none⟩ = some (.slice (some ⟨eg, eo, none⟩) c.gts.length qg) := KT_tr.out.cell 3
                  have lU_0 : w.heap.size + 1 < wr.heap.size := KU_tr.out.lt
                  have cU_0_0 : wr.cell? ⟨w.heap.size + 1, 0, none⟩ = some (.slice pa' d.ins.length qa') := KU_tr.out.cell 0
                  have cU_1_0 : wr.cell? ⟨w.heap.size + 1, 1, none⟩ = some (.slice pb' d.outs.length qb') := KU_tr.out.cell 1
                  have cU_2_0 : wr.cell? ⟨w.heap.size + 1, 2, none⟩ = some (.slice pl' d.las.length ql') := KU_tr.out.cell 2
                  have cU_3_0 : wr.cell? ⟨w.heap.size + 1, 3, none⟩ = some (.slice (some ⟨eg', eo', none⟩) d.gts.length qg') := KU_tr.out.cell 3
                  go_wp2_with fail
                  clear lT_0 cT_0_0 cT_1_0 cT_2_0 cT_3_0 lU_0 cU_0_0 cU_1_0 cU_2_0 cU_3_0
                  have hd1 : Below wr.heap.size wr wr.drew := (Below.refl _ _).drew
                  have HS1 : Hid (∀ X : World, Below wr.heap.size wr X → X.cell? ⟨w.heap.size, 0, none⟩ = some (.slice pa c.ins.length qa) ∧ X.cell? ⟨w.heap.size, 1, none⟩ = some (.slice pb c.outs.length qb) ∧ X.cell? ⟨w.heap.size, 2, none⟩ = some (.slice pl c.las.length ql) ∧ X.cell? ⟨w.heap.size, 3, none⟩ = some (.slice (some ⟨eg, eo, none⟩) c.gts.length qg) ∧ X.cell? ⟨w.heap.size + 1, 0, none⟩ = some (.slice pa' d.ins.length qa') ∧ X.cell? ⟨w.heap.size + 1, 1, none⟩ = some (.slice pb' d.outs.length qb') ∧ X.cell? ⟨w.heap.size + 1, 2, none⟩ = some (.slice pl' d.las.length ql') ∧ X.cell? ⟨w.heap.size + 1, 3, none⟩ = some (.slice (some ⟨eg', eo', none⟩) d.gts.length qg') ∧ X.cell? ⟨eg, eo + j * 5, none⟩ = some (.string ex.name) ∧ X.cell? ⟨eg, eo + j * 5 + 1, none⟩ = some (.int .i64 ex.op) ∧ X.cell? ⟨eg, eo + j * 5 + 2, none⟩ = some (.slice p1 ex.ins.length q1) ∧ X.cell? ⟨eg, eo + j * 5 + 3, none⟩ = some (.slice p2 ex.rows.length q2) ∧ X.cell? ⟨eg, eo + j * 5 + 4, none⟩ = some (.bool ex.off) ∧ X.cell? ⟨eg', eo' + j * 5, none⟩ = some (.string ey.name) ∧ X.cell? ⟨eg', eo' + j * 5 + 1, none⟩ = some (.int .i64 ey.op) ∧ X.cell? ⟨eg', eo' + j * 5 + 2, none⟩ = some (.slice p3 ey.ins.length q3) ∧ X.cell? ⟨eg', eo' + j * 5 + 3, none⟩ = some (.slice p4 ey.rows.length q4) ∧ X.cell? ⟨eg', eo' + j * 5 + 4, none⟩ = some (.bool ey.off)) := Lib.hid fun X h => ⟨(h.cell (p := ⟨w.heap.size, 0, none⟩) KT_tr.out.lt).trans (KT_tr.out.cell 0), (h.cell (p := ⟨w.heap.size, 1, none⟩) KT_tr.out.lt).trans (KT_tr.out.cell 1), (h.cell (p := ⟨w.heap.size, 2, none⟩) KT_tr.out.lt).trans (KT_tr.out.cell 2), (h.cell (p := ⟨w.heap.size, 3, none⟩) KT_tr.out.lt).trans (KT_tr.out.cell 3), (h.cell (p := ⟨w.heap.size + 1, 0, none⟩) KU_tr.out.lt).trans (KU_tr.out.cell 0), (h.cell (p := ⟨w.heap.size + 1, 1, none⟩) KU_tr.out.lt).trans (KU_tr.out.cell 1), (h.cell (p := ⟨w.heap.size + 1, 2, none⟩) KU_tr.out.lt).trans (KU_tr.out.cell 2), (h.cell (p := ⟨w.heap.size + 1, 3, none⟩) KU_tr.out.lt).trans (KU_tr.out.cell 3), (h.cell (p := ⟨eg, eo + j * 5, none⟩) hg).trans c0, (h.cell (p := ⟨eg, eo + j * 5 + 1, none⟩) hg).trans c1, (h.cell (p := ⟨eg, eo + j * 5 + 2, none⟩) hg).trans c2, (h.cell (p := ⟨eg, eo + j * 5 + 3, none⟩) hg).trans c3, (h.cell (p := ⟨eg, eo + j * 5 + 4, none⟩) hg).trans c4, (h.cell (p := ⟨eg', eo' + j * 5, none⟩) hg').trans d0, (h.cell (p := ⟨eg', eo' + j * 5 + 1, none⟩) hg').trans d1, (h.cell (p := ⟨eg', eo' + j * 5 + 2, none⟩) hg').trans d2, (h.cell (p := ⟨eg', eo' + j * 5 + 3, none⟩) hg').trans d3, (h.cell (p := ⟨eg', eo' + j * 5 + 4, none⟩) hg').trans d4⟩
                  obtain ⟨x1_0, x1_1, x1_2, x1_3, x1_4, x1_5, x1_6, x1_7, x1_8, x1_9, x1_10, x1_11, x1_12, x1_13, x1_14, x1_15, x1_16, x1_17⟩ := HS1.out _ hd1
                  first | go_loud (go_region_held3 (fun X => X.cell? ⟨w.heap.size, 0, none⟩ = some (.slice pa c.ins.length qa) ∧ X.cell? ⟨w.heap.size, 1, none⟩ = some (.slice pb c.outs.length qb) ∧ X.cell? ⟨w.heap.size, 2, none⟩ = some (.slice pl c.las.length ql) ∧ X.cell? ⟨w.heap.size, 3, none⟩ = some (.slice (some ⟨eg, eo, none⟩) c.gts.length qg) ∧ X.cell? ⟨w.heap.size + 1, 0, none⟩ = some (.slice pa' d.ins.length qa') ∧ X.cell? ⟨w.heap.size + 1, 1, none⟩ = some (.slice pb' d.outs.length qb') ∧ X.cell? ⟨w.heap.size + 1, 2, none⟩ = some (.slice pl' d.las.length ql') ∧ X.cell? ⟨w.heap.size + 1, 3, none⟩ = some (.slice (some ⟨eg', eo', none⟩) d.gts.length qg') ∧ X.cell? ⟨eg, eo + j * 5, none⟩ = some (.string ex.name) ∧ X.cell? ⟨eg, eo + j * 5 + 1, none⟩ = some (.int .i64 ex.op) ∧ X.cell? ⟨eg, eo + j * 5 + 2, none⟩ = some (.slice p1 ex.ins.length q1) ∧ X.cell? ⟨eg, eo + j * 5 + 3, none⟩ = some (.slice p2 ex.rows.length q2) ∧ X.cell? ⟨eg, eo + j * 5 + 4, none⟩ = some (.bool ex.off) ∧ X.cell? ⟨eg', eo' + j * 5, none⟩ = some (.string ey.name) ∧ X.cell? ⟨eg', eo' + j * 5 + 1, none⟩ = some (.int .i64 ey.op) ∧ X.cell? ⟨eg', eo' + j * 5 + 2, none⟩ = some (.slice p3 ey.ins.length q3) ∧ X.cell? ⟨eg', eo' + j * 5 + 3, none⟩ = some (.slice p4 ey.rows.length q4) ∧ X.cell? ⟨eg', eo' + j * 5 + 4, none⟩ = some (.bool ey.off) ∧ Below wr.heap.size wr X) (go_keep)
                    (first | (go_at_call 26; (with_reducible refine (rsameG_ex ex ey _ _ _ _ q _ (HI1.out.below (by assumption)) (HI2.out.below (by assumption)) (HI3.out.below (by assumption)) (HI4.out.below (by assumption)) (HG.out.get (List.mem_of_getElem? HX.out)) (HG'.out.get (List.mem_of_getElem? HY.out)) HQ.out).mono ?_); rintro e wr1 ⟨rfl, hb⟩; have rB1 := chain (a := wr) hb (by assumption); obtain ⟨x1_0, x1_1, x1_2, x1_3, x1_4, x1_5, x1_6, x1_7, x1_8, x1_9, x1_10, x1_11, x1_12, x1_13, x1_14, x1_15, x1_16, x1_17⟩ := HS1.out _ rB1; clear hb))) | fail
                  have b1 : Below wr.heap.size wr wr1 := by assumption
                  clear HS1
                  have C_1 := Lib.hid (C_tr.out.below b1)
                  clear C_tr
                  have D_1 := Lib.hid (D_tr.out.below b1)
                  clear D_tr
                  have Qs_1 := Lib.hid (Qs_tr.out.trans (b1.mono Qs_tr.out.size))
                  clear Qs_tr
                  have Qt_1 := Lib.hid (Qtr.out.trans (b1.mono Qtr.out.size))
                  clear Qtr
                  have I1_1 := Lib.hid (HI1.out.below b1)
                  clear HI1
                  have I2_1 := Lib.hid (HI2.out.below b1)
                  clear HI2
                  have I3_1 := Lib.hid (HI3.out.below b1)
                  clear HI3
                  have I4_1 := Lib.hid (HI4.out.below b1)
                  clear HI4
                  have KT_1 := Lib.hid (KT_tr.out.below b1 KT_tr.out.lt)
                  clear KT_tr
                  have KU_1 := Lib.hid (KU_tr.out.below b1 KU_tr.out.lt)
                  clear KU_tr
                  have B_1 := Lib.hid (B_tr.out.trans (b1.mono B_tr.out.size))
                  clear B_tr
                  cases q
                  · obtain rfl : b4 = false := by rw [← E4.out]; exact eqL_no c.gts d.gts j ex ey HX.out HY.out HQ.out
                    clear hall HQ E4
                    go_wp2
                    go_ret
                    exact ⟨rfl, B_1.out⟩
                  · have HN := Lib.hid (eqL_next hall.out HX.out HY.out HQ.out)
                    clear hall HQ
                    go_wp2
                    refine ⟨⟨j + 1, by omega, by go_num, Qt_1.out, HN⟩, ?_⟩
                    simp [intOf]; omega
                · have hge : (c.gts.length : Int) ≤ (j : Int) := by omega
                  obtain rfl : b4 = true := by rw [← E4.out]; exact eqL_all c.gts d.gts H4.out.symm (fun i x y h1 h2 => hall.out i x y (by have := (List.getElem?_eq_some_iff.1 h1).1; omega) h1 h2)
                  clear hall E4
                  have lT_0 : w.heap.size < wr.heap.size := KT_tr.out.lt
                  have cT_0_0 : wr.cell? ⟨w.heap.size, 0, none⟩ = some (.slice pa c.ins.length qa) := KT_tr.out.cell 0
                  have cT_1_0 : wr.cell? ⟨w.heap.size, 1, none⟩ = some (.slice pb c.outs.length qb) := KT_tr.out.cell 1
                  have cT_2_0 : wr.cell? ⟨w.heap.size, 2, none⟩ = some (.slice pl c.las.length ql) := KT_tr.out.cell 2
                  have cT_3_0 : wr.cell? ⟨w.heap.size, 3, none⟩ = some (.slice pg c.gts.length qg) := KT_tr.out.cell 3
                  have lU_0 : w.heap.size + 1 < wr.heap.size := KU_tr.out.lt
                  have cU_0_0 : wr.cell? ⟨w.heap.size + 1, 0, none⟩ = some (.slice pa' d.ins.length qa') := KU_tr.out.cell 0
                  have cU_1_0 : wr.cell? ⟨w.heap.size + 1, 1, none⟩ = some (.slice pb' d.outs.length qb') := KU_tr.out.cell 1
                  have cU_2_0 : wr.cell? ⟨w.heap.size + 1, 2, none⟩ = some (.slice pl' d.las.length ql') := KU_tr.out.cell 2
                  have cU_3_0 : wr.cell? ⟨w.heap.size + 1, 3, none⟩ = some (.slice pg' d.gts.length qg') := KU_tr.out.cell 3
                  go_wp2
                  go_ret
                  exact ⟨rfl, B_tr.out⟩
end Go.Proofs.YtfkmolbcgnkfdaaDoor
