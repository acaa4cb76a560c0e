/- Are gates of two lists alike; netlists. -/
import Derived.Test.YtfkmolbcgnkfdaaDoorSameL
import Derived.Test.YtfkmolbcgnkfdaaDoorSameG
namespace Go.Proofs.YtfkmolbcgnkfdaaDoor
open Go.RowKit
attribute [local go_sem] Oper.semAt_some
set_option maxRecDepth 100000
set_option maxHeartbeats 2000000

/-- gates of which no list is endless -/
def FewG (l : List Gt) : Prop := ∀ g ∈ l, g.ins.length ≤ 100000 ∧ g.rows.length ≤ 100000
theorem sameG_ex (a b : Gt) (vi vr vi' vr' : Value) (q : Bool) (w : World) (h1 : Inn w vi a.ins) (h2 : Inn w vr a.rows) (h3 : Inn w vi' b.ins) (h4 : Inn w vr' b.rows) (l1 : a.ins.length ≤ 100000 ∧ a.rows.length ≤ 100000) (l2 : b.ins.length ≤ 100000 ∧ b.rows.length ≤ 100000) (hq : gtEq a b = q) :
    Calls Tryd.prog 61 #[.agg #[.string a.name, .int .i64 a.op, vi, vr, .bool a.off], .agg #[.string b.name, .int .i64 b.op, vi', vr', .bool b.off]] w fun e w' => e = .returned (.bool q) ∧ Below w.heap.size w w' := by
  subst hq
  exact sameG_any a b vi vr vi' vr' w h1 h2 h3 h4 l1.1 l1.2 l2.1 l2.2
theorem rsameG_ex (a b : Gt) (vi vr vi' vr' : Value) (q : Bool) (w : World) (h1 : Inn w vi a.ins) (h2 : Inn w vr a.rows) (h3 : Inn w vi' b.ins) (h4 : Inn w vr' b.rows) (l1 : a.ins.length ≤ 100000 ∧ a.rows.length ≤ 100000) (l2 : b.ins.length ≤ 100000 ∧ b.rows.length ≤ 100000) (hq : gtEq a b = q) :
    Calls Tryd.prog 26 #[.agg #[.string a.name, .int .i64 a.op, vi, vr, .bool a.off], .agg #[.string b.name, .int .i64 b.op, vi', vr', .bool b.off]] w fun e w' => e = .returned (.bool q) ∧ Below w.heap.size w w' := by
  subst hq
  exact rsameG_any a b vi vr vi' vr' w h1 h2 h3 h4 l1.1 l1.2 l2.1 l2.2
theorem eqL_next {α : Type} {q : α → α → Bool} {l m : List α} {k : Nat} {x y : α} (h : ∀ j a b, j < k → l[j]? = some a → m[j]? = some b → q a b = true) (hx : l[k]? = some x) (hy : m[k]? = some y) (hq : q x y = true) : ∀ j a b, j < k + 1 → l[j]? = some a → m[j]? = some b → q a b = true := by
  intro j a b hj h1 h2
  by_cases hjk : j < k
  · exact h j a b hjk h1 h2
  · have : j = k := by omega
    subst this
    rw [hx] at h1
    rw [hy] at h2
    rw [← Option.some.inj h1, ← Option.some.inj h2]
    exact hq

theorem eqFunc_any (l m : List Gt) (v u : Value) (w : World) (hln : l.length ≤ 100000) (hl : FewG l) (hm : FewG m) (ht : Gts w v l) (hu : Gts w u m) :
    Calls Tryd.prog 60 #[v, u, .func (.func 61) #[] #[]] w fun e w' => e = .returned (.bool (eqL gtEq l m)) ∧ Below w.heap.size w w' := by
  have HH := Lib.hid ht
  have HH' := Lib.hid hu
  have HL := Lib.hid hl
  have HM := Lib.hid hm
  obtain ⟨b, c, rfl⟩ := ht.slice
  obtain ⟨b', c', rfl⟩ := hu.slice
  clear ht hu hl hm
  by_cases hne : l.length ≠ m.length
  · have hr := eqL_len (q := gtEq) l m hne
    have hneb : ((l.length : Int) == (m.length : Int)) = false := by rw [beq_eq_false_iff_ne]; omega
    rw [hr]
    clear hr hne
    go_enter Tryd.func60, Tryd.ntmps60
    go_wp2
    go_ret
    exact ⟨rfl, Below.refl _ _⟩
  · have hlm : m.length = l.length := by omega
    rw [hlm]
    have HLM := Lib.hid hlm
    clear hlm hne
    go_enter Tryd.func60, Tryd.ntmps60
    go_wp2
    go_loopw [17] (fun i wr => ∃ k : Nat, k ≤ l.length ∧ i = .int .i64 (k : Int) ∧ Below w.heap.size w wr ∧ Hid (∀ j x y, j < k → l[j]? = some x → m[j]? = some y → gtEq x y = true)) (fun i _ => l.length - (intOf i).toNat)
    case atStart => exact ⟨0, by omega, rfl, Below.refl _ _, Lib.hid fun j x y h => absurd h (by omega)⟩
    case round =>
      obtain ⟨k, hk, rfl, hB, hall⟩ := hrel
      have B0 := Lib.hid hB
      have G1 := Lib.hid (HH.out.below hB)
      have G2 := Lib.hid (HH'.out.below hB)
      clear hB
      by_cases hlt : k < l.length
      · have hlt' : (k : Int) < (l.length : Int) := by omega
        obtain ⟨eg, eo, ec, ex, er, hx, ha, hv, hg, c0, c1, c2, c3, c4⟩ := G1.out.at_ hlt
        obtain ⟨eg', eo', ec', ey, er2, hy, ha', hv', hg', d0, d1, d2, d3, d4⟩ := G2.out.at_ (k := k) (by rw [HLM.out]; exact hlt)
        rw [HLM.out] at hv'
        injection hv with e1 e2 e3
        subst e1 e3
        injection hv' with e1 e2 e3
        subst e1 e3
        obtain ⟨p1, q1, i1⟩ := ha.ins.lst.slice
        obtain ⟨p2, q2, i2⟩ := ha.rows.lst.slice
        obtain ⟨p3, q3, i3⟩ := ha'.ins.lst.slice
        obtain ⟨p4, q4, i4⟩ := ha'.rows.lst.slice
        have HI1 := Lib.hid ha.ins
        have HI2 := Lib.hid ha.rows
        have HI3 := Lib.hid ha'.ins
        have HI4 := Lib.hid ha'.rows
        rw [i1] at c2 HI1
        rw [i2] at c3 HI2
        rw [i3] at d2 HI3
        rw [i4] at d3 HI4
        have HX := Lib.hid hx
        have HY := Lib.hid hy
        obtain ⟨q, hq⟩ : ∃ q, gtEq ex ey = q := ⟨_, rfl⟩
        have HQ := Lib.hid hq
        clear hx hy ha ha' i1 i2 i3 i4 hq
        go_wp2_with fail
        have a1 : Below wr.heap.size wr ((wr.alloc (.cells #[.string ex.name, .int .i64 ex.op, .slice p1 ex.ins.length q1, .slice p2 ex.rows.length q2, .bool ex.off] 39)).alloc (.cells #[.string ey.name, .int .i64 ey.op, .slice p3 ey.ins.length q3, .slice p4 ey.rows.length q4, .bool ey.off] 39)) := (((Below.refl wr.heap.size wr).alloc (by first | exact Nat.le_refl _ | (simp only [World.size_alloc]; omega)) (.cells #[.string ex.name, .int .i64 ex.op, .slice p1 ex.ins.length q1, .slice p2 ex.rows.length q2, .bool ex.off] 39)).alloc (by first | exact Nat.le_refl _ | (simp only [World.size_alloc]; omega)) (.cells #[.string ey.name, .int .i64 ey.op, .slice p3 ey.ins.length q3, .slice p4 ey.rows.length q4, .bool ey.off] 39))
        have X_new0 := ((Blk.new wr #[.string ex.name, .int .i64 ex.op, .slice p1 ex.ins.length q1, .slice p2 ex.rows.length q2, .bool ex.off] 39).alloc (.cells #[.string ey.name, .int .i64 ey.op, .slice p3 ey.ins.length q3, .slice p4 ey.rows.length q4, .bool ey.off] 39))
        have KX_00 := Lib.hid X_new0
        clear X_new0
        have Y_new0 := (Blk.new (wr.alloc (.cells #[.string ex.name, .int .i64 ex.op, .slice p1 ex.ins.length q1, .slice p2 ex.rows.length q2, .bool ex.off] 39)) #[.string ey.name, .int .i64 ey.op, .slice p3 ey.ins.length q3, .slice p4 ey.rows.length q4, .bool ey.off] 39)
        rw [World.size_alloc] at Y_new0
        have KY_00 := Lib.hid Y_new0
        clear Y_new0
        have I1_1 := Lib.hid (HI1.out.below a1)
        clear HI1
        have I2_1 := Lib.hid (HI2.out.below a1)
        clear HI2
        have I3_1 := Lib.hid (HI3.out.below a1)
        clear HI3
        have I4_1 := Lib.hid (HI4.out.below a1)
        clear HI4
        have B_1 := Lib.hid (B0.out.trans (a1.mono B0.out.size))
        clear B0
        clear a1
        generalize ((wr.alloc (.cells #[.string ex.name, .int .i64 ex.op, .slice p1 ex.ins.length q1, .slice p2 ex.rows.length q2, .bool ex.off] 39)).alloc (.cells #[.string ey.name, .int .i64 ey.op, .slice p3 ey.ins.length q3, .slice p4 ey.rows.length q4, .bool ey.off] 39)) = wr1 at I1_1 I2_1 I3_1 I4_1 KX_00 KY_00 B_1 ⊢
        refine (sameG_ex ex ey _ _ _ _ q _ I1_1.out I2_1.out I3_1.out I4_1.out (HL.out ex (List.mem_of_getElem? HX.out)) (HM.out ey (List.mem_of_getElem? HY.out)) HQ.out).mono ?_
        rintro e wr2 ⟨rfl, b2⟩
        have I1_2 := Lib.hid (I1_1.out.below b2)
        clear I1_1
        have I2_2 := Lib.hid (I2_1.out.below b2)
        clear I2_1
        have I3_2 := Lib.hid (I3_1.out.below b2)
        clear I3_1
        have I4_2 := Lib.hid (I4_1.out.below b2)
        clear I4_1
        have KX_2 := Lib.hid (KX_00.out.below b2 KX_00.out.lt)
        clear KX_00
        have KY_2 := Lib.hid (KY_00.out.below b2 KY_00.out.lt)
        clear KY_00
        have B_2 := Lib.hid (B_1.out.trans (b2.mono B_1.out.size))
        clear B_1
        clear b2
        cases q
        · have HR := Lib.hid (eqL_no l m k ex ey HX.out HY.out HQ.out)
          clear hall HQ
          go_wp2
          go_ret
          rw [HR.out]
          exact ⟨rfl, B_2.out⟩
        · have HN := Lib.hid (eqL_next hall.out HX.out HY.out HQ.out)
          clear hall HQ
          go_wp2
          refine ⟨⟨k + 1, by omega, by go_num, B_2.out, HN⟩, ?_⟩
          simp [intOf]; omega
      · have hge : (l.length : Int) ≤ (k : Int) := by omega
        have hr := eqL_all (q := gtEq) l m HLM.out.symm (fun j x y h1 h2 => hall.out j x y (by have := (List.getElem?_eq_some_iff.1 h1).1; omega) h1 h2)
        have HR := Lib.hid hr
        clear hr hall
        go_wp2
        go_ret
        rw [HR.out]
        exact ⟨rfl, B0.out⟩


def ciEq (c d : Ci) : Bool := eqL stEq c.ins d.ins && (eqL stEq c.outs d.outs && (eqL laEq c.las d.las && eqL gtEq c.gts d.gts))
theorem equalLa_ex (l m : List La) (v u : Value) (q : Bool) (w : World) (hl : l.length ≤ 100000) (hm : m.length ≤ 100000) (ht : Lst lec w v l) (hu : Lst lec w u m) (hq : eqL laEq l m = q) :
    Calls Tryd.prog 59 #[v, u] w fun e w' => e = .returned (.bool q) ∧ Below w.heap.size w w' := by
  subst hq
  exact equalLa_any l m v u w hl hm ht hu
theorem eqFunc_ex (l m : List Gt) (v u : Value) (q : Bool) (w : World) (hln : l.length ≤ 100000) (hl : FewG l) (hm : FewG m) (ht : Gts w v l) (hu : Gts w u m) (hq : eqL gtEq l m = q) :
    Calls Tryd.prog 60 #[v, u, .func (.func 61) #[] #[]] w fun e w' => e = .returned (.bool q) ∧ Below w.heap.size w w' := by
  subst hq
  exact eqFunc_any l m v u w hln hl hm ht hu

theorem same_any (c d : Ci) (a b l g a' b' l' g' : Value) (w : World) (h : Cir w a b l g c) (h' : Cir w a' b' l' g' d) (hf : Few c) (hf' : Few d) (hg : FewG c.gts) (hg' : FewG d.gts) :
    Calls Tryd.prog 23 #[.agg #[a, b, l, g], .agg #[a', b', l', g']] w fun e w' => e = .returned (.bool (ciEq c d)) ∧ Below w.heap.size w w' := by
  have H := Lib.hid h
  have H' := Lib.hid h'
  obtain ⟨pa, qa, pb, qb, pl, ql, pg, qg, rfl, rfl, rfl, rfl⟩ := h.slices
  obtain ⟨pa', qa', pb', qb', pl', ql', pg', qg', rfl, rfl, rfl, rfl⟩ := h'.slices
  have HF := Lib.hid hf
  have HF' := Lib.hid hf'
  have HG := Lib.hid hg
  have HG' := Lib.hid hg'
  clear h h' hf hf' hg hg'
  obtain ⟨b1, e1⟩ : ∃ q, eqL stEq c.ins d.ins = q := ⟨_, rfl⟩
  obtain ⟨b2, e2⟩ : ∃ q, eqL stEq c.outs d.outs = q := ⟨_, rfl⟩
  obtain ⟨b3, e3⟩ : ∃ q, eqL laEq c.las d.las = q := ⟨_, rfl⟩
  obtain ⟨b4, e4⟩ : ∃ q, eqL gtEq c.gts d.gts = q := ⟨_, rfl⟩
  rw [show ciEq c d = (b1 && (b2 && (b3 && b4))) from by unfold ciEq; rw [e1, e2, e3, e4]]
  have E1 := Lib.hid e1
  have E2 := Lib.hid e2
  have E3 := Lib.hid e3
  have E4 := Lib.hid e4
  clear e1 e2 e3 e4
  cases b1
  · go_enter Tryd.func23, Tryd.ntmps23
    go_wp2_with fail
    have a1 : Below w.heap.size w ((w.alloc (.cells #[.slice pa c.ins.length qa, .slice pb c.outs.length qb, .slice pl c.las.length ql, .slice pg c.gts.length qg] 26)).alloc (.cells #[.slice pa' d.ins.length qa', .slice pb' d.outs.length qb', .slice pl' d.las.length ql', .slice pg' d.gts.length qg'] 26)) := (((Below.refl w.heap.size w).alloc (by first | exact Nat.le_refl _ | (simp only [World.size_alloc]; omega)) (.cells #[.slice pa c.ins.length qa, .slice pb c.outs.length qb, .slice pl c.las.length ql, .slice pg c.gts.length qg] 26)).alloc (by first | exact Nat.le_refl _ | (simp only [World.size_alloc]; omega)) (.cells #[.slice pa' d.ins.length qa', .slice pb' d.outs.length qb', .slice pl' d.las.length ql', .slice pg' d.gts.length qg'] 26))
    have T_new0 := ((Blk.new w #[.slice pa c.ins.length qa, .slice pb c.outs.length qb, .slice pl c.las.length ql, .slice pg c.gts.length qg] 26).alloc (.cells #[.slice pa' d.ins.length qa', .slice pb' d.outs.length qb', .slice pl' d.las.length ql', .slice pg' d.gts.length qg'] 26))
    have KT_00 := Lib.hid T_new0
    clear T_new0
    have U_new0 := (Blk.new (w.alloc (.cells #[.slice pa c.ins.length qa, .slice pb c.outs.length qb, .slice pl c.las.length ql, .slice pg c.gts.length qg] 26)) #[.slice pa' d.ins.length qa', .slice pb' d.outs.length qb', .slice pl' d.las.length ql', .slice pg' d.gts.length qg'] 26)
    rw [World.size_alloc] at U_new0
    have KU_00 := Lib.hid U_new0
    clear U_new0
    have C_1 := Lib.hid (H.out.below a1)
    clear H
    have D_1 := Lib.hid (H'.out.below a1)
    clear H'
    have B_1 := Lib.hid a1
    clear a1
    generalize ((w.alloc (.cells #[.slice pa c.ins.length qa, .slice pb c.outs.length qb, .slice pl c.las.length ql, .slice pg c.gts.length qg] 26)).alloc (.cells #[.slice pa' d.ins.length qa', .slice pb' d.outs.length qb', .slice pl' d.las.length ql', .slice pg' d.gts.length qg'] 26)) = w1 at C_1 D_1 KT_00 KU_00 B_1 ⊢
    refine (equal_ex c.ins d.ins _ _ false _ HF.out.ins HF'.out.ins C_1.out.ins.lst D_1.out.ins.lst E1.out).mono ?_
    rintro e w2 ⟨rfl, b2⟩
    have C_2 := Lib.hid (C_1.out.below b2)
    clear C_1
    have D_2 := Lib.hid (D_1.out.below b2)
    clear D_1
    have KT_2 := Lib.hid (KT_00.out.below b2 KT_00.out.lt)
    clear KT_00
    have KU_2 := Lib.hid (KU_00.out.below b2 KU_00.out.lt)
    clear KU_00
    have B_2 := Lib.hid (B_1.out.trans (b2.mono B_1.out.size))
    clear B_1
    clear b2
    go_wp2
    go_ret
    exact ⟨rfl, B_2.out⟩
  · cases b2
    · go_enter Tryd.func23, Tryd.ntmps23
      go_wp2_with fail
      have a1 : Below w.heap.size w ((w.alloc (.cells #[.slice pa c.ins.length qa, .slice pb c.outs.length qb, .slice pl c.las.length ql, .slice pg c.gts.length qg] 26)).alloc (.cells #[.slice pa' d.ins.length qa', .slice pb' d.outs.length qb', .slice pl' d.las.length ql', .slice pg' d.gts.length qg'] 26)) := (((Below.refl w.heap.size w).alloc (by first | exact Nat.le_refl _ | (simp only [World.size_alloc]; omega)) (.cells #[.slice pa c.ins.length qa, .slice pb c.outs.length qb, .slice pl c.las.length ql, .slice pg c.gts.length qg] 26)).alloc (by first | exact Nat.le_refl _ | (simp only [World.size_alloc]; omega)) (.cells #[.slice pa' d.ins.length qa', .slice pb' d.outs.length qb', .slice pl' d.las.length ql', .slice pg' d.gts.length qg'] 26))
      have T_new0 := ((Blk.new w #[.slice pa c.ins.length qa, .slice pb c.outs.length qb, .slice pl c.las.length ql, .slice pg c.gts.length qg] 26).alloc (.cells #[.slice pa' d.ins.length qa', .slice pb' d.outs.length qb', .slice pl' d.las.length ql', .slice pg' d.gts.length qg'] 26))
      have KT_00 := Lib.hid T_new0
      clear T_new0
      have U_new0 := (Blk.new (w.alloc (.cells #[.slice pa c.ins.length qa, .slice pb c.outs.length qb, .slice pl c.las.length ql, .slice pg c.gts.length qg] 26)) #[.slice pa' d.ins.length qa', .slice pb' d.outs.length qb', .slice pl' d.las.length ql', .slice pg' d.gts.length qg'] 26)
      rw [World.size_alloc] at U_new0
      have KU_00 := Lib.hid U_new0
      clear U_new0
      have C_1 := Lib.hid (H.out.below a1)
      clear H
      have D_1 := Lib.hid (H'.out.below a1)
      clear H'
      have B_1 := Lib.hid a1
      clear a1
      generalize ((w.alloc (.cells #[.slice pa c.ins.length qa, .slice pb c.outs.length qb, .slice pl c.las.length ql, .slice pg c.gts.length qg] 26)).alloc (.cells #[.slice pa' d.ins.length qa', .slice pb' d.outs.length qb', .slice pl' d.las.length ql', .slice pg' d.gts.length qg'] 26)) = w1 at C_1 D_1 KT_00 KU_00 B_1 ⊢
      refine (equal_ex c.ins d.ins _ _ true _ HF.out.ins HF'.out.ins C_1.out.ins.lst D_1.out.ins.lst E1.out).mono ?_
      rintro e w2 ⟨rfl, b2⟩
      have C_2 := Lib.hid (C_1.out.below b2)
      clear C_1
      have D_2 := Lib.hid (D_1.out.below b2)
      clear D_1
      have KT_2 := Lib.hid (KT_00.out.below b2 KT_00.out.lt)
      clear KT_00
      have KU_2 := Lib.hid (KU_00.out.below b2 KU_00.out.lt)
      clear KU_00
      have B_2 := Lib.hid (B_1.out.trans (b2.mono B_1.out.size))
      clear B_1
      clear b2
      have lT_2 : w.heap.size < w2.heap.size := KT_2.out.lt
      have cT_0_2 : w2.cell? ⟨w.heap.size, 0, none⟩ = some (.slice pa c.ins.length qa) := KT_2.out.cell 0
      have cT_1_2 : w2.cell? ⟨w.heap.size, 1, none⟩ = some (.slice pb c.outs.length qb) := KT_2.out.cell 1
      have cT_2_2 : w2.cell? ⟨w.heap.size, 2, none⟩ = some (.slice pl c.las.length ql) := KT_2.out.cell 2
      have cT_3_2 : w2.cell? ⟨w.heap.size, 3, none⟩ = some (.slice pg c.gts.length qg) := KT_2.out.cell 3
      have lU_2 : w.heap.size + 1 < w2.heap.size := KU_2.out.lt
      have cU_0_2 : w2.cell? ⟨w.heap.size + 1, 0, none⟩ = some (.slice pa' d.ins.length qa') := KU_2.out.cell 0
      have cU_1_2 : w2.cell? ⟨w.heap.size + 1, 1, none⟩ = some (.slice pb' d.outs.length qb') := KU_2.out.cell 1
      have cU_2_2 : w2.cell? ⟨w.heap.size + 1, 2, none⟩ = some (.slice pl' d.las.length ql') := KU_2.out.cell 2
      have cU_3_2 : w2.cell? ⟨w.heap.size + 1, 3, none⟩ = some (.slice pg' d.gts.length qg') := KU_2.out.cell 3
      go_wp2_with fail
      clear lT_2 cT_0_2 cT_1_2 cT_2_2 cT_3_2 lU_2 cU_0_2 cU_1_2 cU_2_2 cU_3_2
      refine (equal_ex c.outs d.outs _ _ false _ HF.out.outs HF'.out.outs C_2.out.outs.lst D_2.out.outs.lst E2.out).mono ?_
      rintro e w3 ⟨rfl, b3⟩
      have C_3 := Lib.hid (C_2.out.below b3)
      clear C_2
      have D_3 := Lib.hid (D_2.out.below b3)
      clear D_2
      have KT_3 := Lib.hid (KT_2.out.below b3 KT_2.out.lt)
      clear KT_2
      have KU_3 := Lib.hid (KU_2.out.below b3 KU_2.out.lt)
      clear KU_2
      have B_3 := Lib.hid (B_2.out.trans (b3.mono B_2.out.size))
      clear B_2
      clear b3
      go_wp2
      go_ret
      exact ⟨rfl, B_3.out⟩
    · cases b3
      · go_enter Tryd.func23, Tryd.ntmps23
        go_wp2_with fail
        have a1 : Below w.heap.size w ((w.alloc (.cells #[.slice pa c.ins.length qa, .slice pb c.outs.length qb, .slice pl c.las.length ql, .slice pg c.gts.length qg] 26)).alloc (.cells #[.slice pa' d.ins.length qa', .slice pb' d.outs.length qb', .slice pl' d.las.length ql', .slice pg' d.gts.length qg'] 26)) := (((Below.refl w.heap.size w).alloc (by first | exact Nat.le_refl _ | (simp only [World.size_alloc]; omega)) (.cells #[.slice pa c.ins.length qa, .slice pb c.outs.length qb, .slice pl c.las.length ql, .slice pg c.gts.length qg] 26)).alloc (by first | exact Nat.le_refl _ | (simp only [World.size_alloc]; omega)) (.cells #[.slice pa' d.ins.length qa', .slice pb' d.outs.length qb', .slice pl' d.las.length ql', .slice pg' d.gts.length qg'] 26))
        have T_new0 := ((Blk.new w #[.slice pa c.ins.length qa, .slice pb c.outs.length qb, .slice pl c.las.length ql, .slice pg c.gts.length qg] 26).alloc (.cells #[.slice pa' d.ins.length qa', .slice pb' d.outs.length qb', .slice pl' d.las.length ql', .slice pg' d.gts.length qg'] 26))
        have KT_00 := Lib.hid T_new0
        clear T_new0
        have U_new0 := (Blk.new (w.alloc (.cells #[.slice pa c.ins.length qa, .slice pb c.outs.length qb, .slice pl c.las.length ql, .slice pg c.gts.length qg] 26)) #[.slice pa' d.ins.length qa', .slice pb' d.outs.length qb', .slice pl' d.las.length ql', .slice pg' d.gts.length qg'] 26)
        rw [World.size_alloc] at U_new0
        have KU_00 := Lib.hid U_new0
        clear U_new0
        have C_1 := Lib.hid (H.out.below a1)
        clear H
        have D_1 := Lib.hid (H'.out.below a1)
        clear H'
        have B_1 := Lib.hid a1
        clear a1
        generalize ((w.alloc (.cells #[.slice pa c.ins.length qa, .slice pb c.outs.length qb, .slice pl c.las.length ql, .slice pg c.gts.length qg] 26)).alloc (.cells #[.slice pa' d.ins.length qa', .slice pb' d.outs.length qb', .slice pl' d.las.length ql', .slice pg' d.gts.length qg'] 26)) = w1 at C_1 D_1 KT_00 KU_00 B_1 ⊢
        refine (equal_ex c.ins d.ins _ _ true _ HF.out.ins HF'.out.ins C_1.out.ins.lst D_1.out.ins.lst E1.out).mono ?_
        rintro e w2 ⟨rfl, b2⟩
        have C_2 := Lib.hid (C_1.out.below b2)
        clear C_1
        have D_2 := Lib.hid (D_1.out.below b2)
        clear D_1
        have KT_2 := Lib.hid (KT_00.out.below b2 KT_00.out.lt)
        clear KT_00
        have KU_2 := Lib.hid (KU_00.out.below b2 KU_00.out.lt)
        clear KU_00
        have B_2 := Lib.hid (B_1.out.trans (b2.mono B_1.out.size))
        clear B_1
        clear b2
        have lT_2 : w.heap.size < w2.heap.size := KT_2.out.lt
        have cT_0_2 : w2.cell? ⟨w.heap.size, 0, none⟩ = some (.slice pa c.ins.length qa) := KT_2.out.cell 0
        have cT_1_2 : w2.cell? ⟨w.heap.size, 1, none⟩ = some (.slice pb c.outs.length qb) := KT_2.out.cell 1
        have cT_2_2 : w2.cell? ⟨w.heap.size, 2, none⟩ = some (.slice pl c.las.length ql) := KT_2.out.cell 2
        have cT_3_2 : w2.cell? ⟨w.heap.size, 3, none⟩ = some (.slice pg c.gts.length qg) := KT_2.out.cell 3
        have lU_2 : w.heap.size + 1 < w2.heap.size := KU_2.out.lt
        have cU_0_2 : w2.cell? ⟨w.heap.size + 1, 0, none⟩ = some (.slice pa' d.ins.length qa') := KU_2.out.cell 0
        have cU_1_2 : w2.cell? ⟨w.heap.size + 1, 1, none⟩ = some (.slice pb' d.outs.length qb') := KU_2.out.cell 1
        have cU_2_2 : w2.cell? ⟨w.heap.size + 1, 2, none⟩ = some (.slice pl' d.las.length ql') := KU_2.out.cell 2
        have cU_3_2 : w2.cell? ⟨w.heap.size + 1, 3, none⟩ = some (.slice pg' d.gts.length qg') := KU_2.out.cell 3
        go_wp2_with fail
        clear lT_2 cT_0_2 cT_1_2 cT_2_2 cT_3_2 lU_2 cU_0_2 cU_1_2 cU_2_2 cU_3_2
        refine (equal_ex c.outs d.outs _ _ true _ HF.out.outs HF'.out.outs C_2.out.outs.lst D_2.out.outs.lst E2.out).mono ?_
        rintro e w3 ⟨rfl, b3⟩
        have C_3 := Lib.hid (C_2.out.below b3)
        clear C_2
        have D_3 := Lib.hid (D_2.out.below b3)
        clear D_2
        have KT_3 := Lib.hid (KT_2.out.below b3 KT_2.out.lt)
        clear KT_2
        have KU_3 := Lib.hid (KU_2.out.below b3 KU_2.out.lt)
        clear KU_2
        have B_3 := Lib.hid (B_2.out.trans (b3.mono B_2.out.size))
        clear B_2
        clear b3
        have lT_3 : w.heap.size < w3.heap.size := KT_3.out.lt
        have cT_0_3 : w3.cell? ⟨w.heap.size, 0, none⟩ = some (.slice pa c.ins.length qa) := KT_3.out.cell 0
        have cT_1_3 : w3.cell? ⟨w.heap.size, 1, none⟩ = some (.slice pb c.outs.length qb) := KT_3.out.cell 1
        have cT_2_3 : w3.cell? ⟨w.heap.size, 2, none⟩ = some (.slice pl c.las.length ql) := KT_3.out.cell 2
        have cT_3_3 : w3.cell? ⟨w.heap.size, 3, none⟩ = some (.slice pg c.gts.length qg) := KT_3.out.cell 3
        have lU_3 : w.heap.size + 1 < w3.heap.size := KU_3.out.lt
        have cU_0_3 : w3.cell? ⟨w.heap.size + 1, 0, none⟩ = some (.slice pa' d.ins.length qa') := KU_3.out.cell 0
        have cU_1_3 : w3.cell? ⟨w.heap.size + 1, 1, none⟩ = some (.slice pb' d.outs.length qb') := KU_3.out.cell 1
        have cU_2_3 : w3.cell? ⟨w.heap.size + 1, 2, none⟩ = some (.slice pl' d.las.length ql') := KU_3.out.cell 2
        have cU_3_3 : w3.cell? ⟨w.heap.size + 1, 3, none⟩ = some (.slice pg' d.gts.length qg') := KU_3.out.cell 3
        go_wp2_with fail
        clear lT_3 cT_0_3 cT_1_3 cT_2_3 cT_3_3 lU_3 cU_0_3 cU_1_3 cU_2_3 cU_3_3
        refine (equalLa_ex c.las d.las _ _ false _ HF.out.las HF'.out.las C_3.out.las.lst D_3.out.las.lst E3.out).mono ?_
        rintro e w4 ⟨rfl, b4⟩
        have C_4 := Lib.hid (C_3.out.below b4)
        clear C_3
        have D_4 := Lib.hid (D_3.out.below b4)
        clear D_3
        have KT_4 := Lib.hid (KT_3.out.below b4 KT_3.out.lt)
        clear KT_3
        have KU_4 := Lib.hid (KU_3.out.below b4 KU_3.out.lt)
        clear KU_3
        have B_4 := Lib.hid (B_3.out.trans (b4.mono B_3.out.size))
        clear B_3
        clear b4
        go_wp2
        go_ret
        exact ⟨rfl, B_4.out⟩
      · go_enter Tryd.func23, Tryd.ntmps23
        go_wp2_with fail
        have a1 : Below w.heap.size w ((w.alloc (.cells #[.slice pa c.ins.length qa, .slice pb c.outs.length qb, .slice pl c.las.length ql, .slice pg c.gts.length qg] 26)).alloc (.cells #[.slice pa' d.ins.length qa', .slice pb' d.outs.length qb', .slice pl' d.las.length ql', .slice pg' d.gts.length qg'] 26)) := (((Below.refl w.heap.size w).alloc (by first | exact Nat.le_refl _ | (simp only [World.size_alloc]; omega)) (.cells #[.slice pa c.ins.length qa, .slice pb c.outs.length qb, .slice pl c.las.length ql, .slice pg c.gts.length qg] 26)).alloc (by first | exact Nat.le_refl _ | (simp only [World.size_alloc]; omega)) (.cells #[.slice pa' d.ins.length qa', .slice pb' d.outs.length qb', .slice pl' d.las.length ql', .slice pg' d.gts.length qg'] 26))
        have T_new0 := ((Blk.new w #[.slice pa c.ins.length qa, .slice pb c.outs.length qb, .slice pl c.las.length ql, .slice pg c.gts.length qg] 26).alloc (.cells #[.slice pa' d.ins.length qa', .slice pb' d.outs.length qb', .slice pl' d.las.length ql', .slice pg' d.gts.length qg'] 26))
        have KT_00 := Lib.hid T_new0
        clear T_new0
        have U_new0 := (Blk.new (w.alloc (.cells #[.slice pa c.ins.length qa, .slice pb c.outs.length qb, .slice pl c.las.length ql, .slice pg c.gts.length qg] 26)) #[.slice pa' d.ins.length qa', .slice pb' d.outs.length qb', .slice pl' d.las.length ql', .slice pg' d.gts.length qg'] 26)
        rw [World.size_alloc] at U_new0
        have KU_00 := Lib.hid U_new0
        clear U_new0
        have C_1 := Lib.hid (H.out.below a1)
        clear H
        have D_1 := Lib.hid (H'.out.below a1)
        clear H'
        have B_1 := Lib.hid a1
        clear a1
        generalize ((w.alloc (.cells #[.slice pa c.ins.length qa, .slice pb c.outs.length qb, .slice pl c.las.length ql, .slice pg c.gts.length qg] 26)).alloc (.cells #[.slice pa' d.ins.length qa', .slice pb' d.outs.length qb', .slice pl' d.las.length ql', .slice pg' d.gts.length qg'] 26)) = w1 at C_1 D_1 KT_00 KU_00 B_1 ⊢
        refine (equal_ex c.ins d.ins _ _ true _ HF.out.ins HF'.out.ins C_1.out.ins.lst D_1.out.ins.lst E1.out).mono ?_
        rintro e w2 ⟨rfl, b2⟩
        have C_2 := Lib.hid (C_1.out.below b2)
        clear C_1
        have D_2 := Lib.hid (D_1.out.below b2)
        clear D_1
        have KT_2 := Lib.hid (KT_00.out.below b2 KT_00.out.lt)
        clear KT_00
        have KU_2 := Lib.hid (KU_00.out.below b2 KU_00.out.lt)
        clear KU_00
        have B_2 := Lib.hid (B_1.out.trans (b2.mono B_1.out.size))
        clear B_1
        clear b2
        have lT_2 : w.heap.size < w2.heap.size := KT_2.out.lt
        have cT_0_2 : w2.cell? ⟨w.heap.size, 0, none⟩ = some (.slice pa c.ins.length qa) := KT_2.out.cell 0
        have cT_1_2 : w2.cell? ⟨w.heap.size, 1, none⟩ = some (.slice pb c.outs.length qb) := KT_2.out.cell 1
        have cT_2_2 : w2.cell? ⟨w.heap.size, 2, none⟩ = some (.slice pl c.las.length ql) := KT_2.out.cell 2
        have cT_3_2 : w2.cell? ⟨w.heap.size, 3, none⟩ = some (.slice pg c.gts.length qg) := KT_2.out.cell 3
        have lU_2 : w.heap.size + 1 < w2.heap.size := KU_2.out.lt
        have cU_0_2 : w2.cell? ⟨w.heap.size + 1, 0, none⟩ = some (.slice pa' d.ins.length qa') := KU_2.out.cell 0
        have cU_1_2 : w2.cell? ⟨w.heap.size + 1, 1, none⟩ = some (.slice pb' d.outs.length qb') := KU_2.out.cell 1
        have cU_2_2 : w2.cell? ⟨w.heap.size + 1, 2, none⟩ = some (.slice pl' d.las.length ql') := KU_2.out.cell 2
        have cU_3_2 : w2.cell? ⟨w.heap.size + 1, 3, none⟩ = some (.slice pg' d.gts.length qg') := KU_2.out.cell 3
        go_wp2_with fail
        clear lT_2 cT_0_2 cT_1_2 cT_2_2 cT_3_2 lU_2 cU_0_2 cU_1_2 cU_2_2 cU_3_2
        refine (equal_ex c.outs d.outs _ _ true _ HF.out.outs HF'.out.outs C_2.out.outs.lst D_2.out.outs.lst E2.out).mono ?_
        rintro e w3 ⟨rfl, b3⟩
        have C_3 := Lib.hid (C_2.out.below b3)
        clear C_2
        have D_3 := Lib.hid (D_2.out.below b3)
        clear D_2
        have KT_3 := Lib.hid (KT_2.out.below b3 KT_2.out.lt)
        clear KT_2
        have KU_3 := Lib.hid (KU_2.out.below b3 KU_2.out.lt)
        clear KU_2
        have B_3 := Lib.hid (B_2.out.trans (b3.mono B_2.out.size))
        clear B_2
        clear b3
        have lT_3 : w.heap.size < w3.heap.size := KT_3.out.lt
        have cT_0_3 : w3.cell? ⟨w.heap.size, 0, none⟩ = some (.slice pa c.ins.length qa) := KT_3.out.cell 0
        have cT_1_3 : w3.cell? ⟨w.heap.size, 1, none⟩ = some (.slice pb c.outs.length qb) := KT_3.out.cell 1
        have cT_2_3 : w3.cell? ⟨w.heap.size, 2, none⟩ = some (.slice pl c.las.length ql) := KT_3.out.cell 2
        have cT_3_3 : w3.cell? ⟨w.heap.size, 3, none⟩ = some (.slice pg c.gts.length qg) := KT_3.out.cell 3
        have lU_3 : w.heap.size + 1 < w3.heap.size := KU_3.out.lt
        have cU_0_3 : w3.cell? ⟨w.heap.size + 1, 0, none⟩ = some (.slice pa' d.ins.length qa') := KU_3.out.cell 0
        have cU_1_3 : w3.cell? ⟨w.heap.size + 1, 1, none⟩ = some (.slice pb' d.outs.length qb') := KU_3.out.cell 1
        have cU_2_3 : w3.cell? ⟨w.heap.size + 1, 2, none⟩ = some (.slice pl' d.las.length ql') := KU_3.out.cell 2
        have cU_3_3 : w3.cell? ⟨w.heap.size + 1, 3, none⟩ = some (.slice pg' d.gts.length qg') := KU_3.out.cell 3
        go_wp2_with fail
        clear lT_3 cT_0_3 cT_1_3 cT_2_3 cT_3_3 lU_3 cU_0_3 cU_1_3 cU_2_3 cU_3_3
        refine (equalLa_ex c.las d.las _ _ true _ HF.out.las HF'.out.las C_3.out.las.lst D_3.out.las.lst E3.out).mono ?_
        rintro e w4 ⟨rfl, b4⟩
        have C_4 := Lib.hid (C_3.out.below b4)
        clear C_3
        have D_4 := Lib.hid (D_3.out.below b4)
        clear D_3
        have KT_4 := Lib.hid (KT_3.out.below b4 KT_3.out.lt)
        clear KT_3
        have KU_4 := Lib.hid (KU_3.out.below b4 KU_3.out.lt)
        clear KU_3
        have B_4 := Lib.hid (B_3.out.trans (b4.mono B_3.out.size))
        clear B_3
        clear b4
        have lT_4 : w.heap.size < w4.heap.size := KT_4.out.lt
        have cT_0_4 : w4.cell? ⟨w.heap.size, 0, none⟩ = some (.slice pa c.ins.length qa) := KT_4.out.cell 0
        have cT_1_4 : w4.cell? ⟨w.heap.size, 1, none⟩ = some (.slice pb c.outs.length qb) := KT_4.out.cell 1
        have cT_2_4 : w4.cell? ⟨w.heap.size, 2, none⟩ = some (.slice pl c.las.length ql) := KT_4.out.cell 2
        have cT_3_4 : w4.cell? ⟨w.heap.size, 3, none⟩ = some (.slice pg c.gts.length qg) := KT_4.out.cell 3
        have lU_4 : w.heap.size + 1 < w4.heap.size := KU_4.out.lt
        have cU_0_4 : w4.cell? ⟨w.heap.size + 1, 0, none⟩ = some (.slice pa' d.ins.length qa') := KU_4.out.cell 0
        have cU_1_4 : w4.cell? ⟨w.heap.size + 1, 1, none⟩ = some (.slice pb' d.outs.length qb') := KU_4.out.cell 1
        have cU_2_4 : w4.cell? ⟨w.heap.size + 1, 2, none⟩ = some (.slice pl' d.las.length ql') := KU_4.out.cell 2
        have cU_3_4 : w4.cell? ⟨w.heap.size + 1, 3, none⟩ = some (.slice pg' d.gts.length qg') := KU_4.out.cell 3
        go_wp2_with fail
        clear lT_4 cT_0_4 cT_1_4 cT_2_4 cT_3_4 lU_4 cU_0_4 cU_1_4 cU_2_4 cU_3_4
        refine (eqFunc_ex c.gts d.gts _ _ b4 _ HF.out.gts HG.out HG'.out C_4.out.gts D_4.out.gts E4.out).mono ?_
        rintro e w5 ⟨rfl, b5⟩
        have C_5 := Lib.hid (C_4.out.below b5)
        clear C_4
        have D_5 := Lib.hid (D_4.out.below b5)
        clear D_4
        have KT_5 := Lib.hid (KT_4.out.below b5 KT_4.out.lt)
        clear KT_4
        have KU_5 := Lib.hid (KU_4.out.below b5 KU_4.out.lt)
        clear KU_4
        have B_5 := Lib.hid (B_4.out.trans (b5.mono B_4.out.size))
        clear B_4
        clear b5
        go_wp2
        go_ret
        exact ⟨rfl, B_5.out⟩
end Go.Proofs.YtfkmolbcgnkfdaaDoor
