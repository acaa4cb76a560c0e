/- Are gates alike, and netlists. -/
import Derived.Test.YtfkmolbcgnkfdaaDoorPlace
import Derived.Deep.RegionHeld3
import Derived.Test.YtfkmolbcgnkfdaaDoorGen
namespace Go.Proofs.YtfkmolbcgnkfdaaDoor
open Go.RowKit
attribute [local go_sem] Oper.semAt_some
set_option maxRecDepth 100000
set_option maxHeartbeats 2000000

/-- are gates alike; latches; netlists -/
def gtEq (a b : Gt) : Bool := stEq a.name b.name && ((a.op == b.op) && ((a.off == b.off) && (eqL stEq a.ins b.ins && eqL stEq a.rows b.rows)))
theorem texts_ex (l m : List ByteArray) (v u : Value) (q : Bool) (w : World) (hl : l.length ≤ 100000) (hm : m.length ≤ 100000) (ht : Lst stc w v l) (hu : Lst stc w u m) (hq : eqL stEq l m = q) :
    Calls Tryd.prog 17 #[v, u] w fun e w' => e = .returned (.bool q) ∧ Below w.heap.size w w' := by
  subst hq
  exact texts_any l m v u w hl hm ht hu
theorem equal_ex (l m : List ByteArray) (v u : Value) (q : Bool) (w : World) (hl : l.length ≤ 100000) (hm : m.length ≤ 100000) (ht : Lst stc w v l) (hu : Lst stc w u m) (hq : eqL stEq l m = q) :
    Calls Tryd.prog 58 #[v, u] w fun e w' => e = .returned (.bool q) ∧ Below w.heap.size w w' := by
  subst hq
  exact equal_any l m v u w hl hm ht hu

theorem sameG_any (a b : Gt) (vi vr vi' vr' : Value) (w : World) (h1 : Inn w vi a.ins) (h2 : Inn w vr a.rows) (h3 : Inn w vi' b.ins) (h4 : Inn w vr' b.rows) (l1 : a.ins.length ≤ 100000) (l2 : a.rows.length ≤ 100000) (l3 : b.ins.length ≤ 100000) (l4 : b.rows.length ≤ 100000) :
    Calls Tryd.prog 61 #[.agg #[.string a.name, .int .i64 a.op, vi, vr, .bool a.off], .agg #[.string b.name, .int .i64 b.op, vi', vr', .bool b.off]] w fun e w' => e = .returned (.bool (gtEq a b)) ∧ Below w.heap.size w w' := by
  have H1 := Lib.hid h1
  have H2 := Lib.hid h2
  have H3 := Lib.hid h3
  have H4 := Lib.hid h4
  obtain ⟨p1, q1, rfl⟩ := h1.lst.slice
  obtain ⟨p2, q2, rfl⟩ := h2.lst.slice
  obtain ⟨p3, q3, rfl⟩ := h3.lst.slice
  obtain ⟨p4, q4, rfl⟩ := h4.lst.slice
  clear h1 h2 h3 h4
  obtain ⟨b1, e1⟩ : ∃ q, (a.name.toList == b.name.toList) = q := ⟨_, rfl⟩
  obtain ⟨b2, e2⟩ : ∃ q, (a.op == b.op) = q := ⟨_, rfl⟩
  obtain ⟨b3, e3⟩ : ∃ q, (a.off == b.off) = q := ⟨_, rfl⟩
  obtain ⟨b4, e4⟩ : ∃ q, eqL stEq a.ins b.ins = q := ⟨_, rfl⟩
  obtain ⟨b5, e5⟩ : ∃ q, eqL stEq a.rows b.rows = q := ⟨_, rfl⟩
  rw [show gtEq a b = (b1 && (b2 && (b3 && (b4 && b5)))) from by unfold gtEq stEq; rw [e1, e2, e3]; unfold stEq at e4 e5; rw [e4, e5]]
  have E4 := Lib.hid e4
  have E5 := Lib.hid e5
  clear e4 e5
  cases b1
  · go_enter Tryd.func61, Tryd.ntmps61
    have B0 : Below w.heap.size w ((w.alloc (.cells #[.string a.name, .int .i64 a.op, .slice p1 a.ins.length q1, .slice p2 a.rows.length q2, .bool a.off] 39)).alloc (.cells #[.string b.name, .int .i64 b.op, .slice p3 b.ins.length q3, .slice p4 b.rows.length q4, .bool b.off] 39)) := chain2 (below_one _ _) (below_one _ _)
    go_wp2
    go_ret
    exact ⟨rfl, B0⟩
  · cases b2
    · go_enter Tryd.func61, Tryd.ntmps61
      have B0 : Below w.heap.size w ((w.alloc (.cells #[.string a.name, .int .i64 a.op, .slice p1 a.ins.length q1, .slice p2 a.rows.length q2, .bool a.off] 39)).alloc (.cells #[.string b.name, .int .i64 b.op, .slice p3 b.ins.length q3, .slice p4 b.rows.length q4, .bool b.off] 39)) := chain2 (below_one _ _) (below_one _ _)
      go_wp2
      go_ret
      exact ⟨rfl, B0⟩
    · cases b3
      · go_enter Tryd.func61, Tryd.ntmps61
        have B0 : Below w.heap.size w ((w.alloc (.cells #[.string a.name, .int .i64 a.op, .slice p1 a.ins.length q1, .slice p2 a.rows.length q2, .bool a.off] 39)).alloc (.cells #[.string b.name, .int .i64 b.op, .slice p3 b.ins.length q3, .slice p4 b.rows.length q4, .bool b.off] 39)) := chain2 (below_one _ _) (below_one _ _)
        go_wp2
        go_ret
        exact ⟨rfl, B0⟩
      · cases b4
        · go_enter Tryd.func61, Tryd.ntmps61
          go_wp2_with fail
          have a1 : Below w.heap.size w ((w.alloc (.cells #[.string a.name, .int .i64 a.op, .slice p1 a.ins.length q1, .slice p2 a.rows.length q2, .bool a.off] 39)).alloc (.cells #[.string b.name, .int .i64 b.op, .slice p3 b.ins.length q3, .slice p4 b.rows.length q4, .bool b.off] 39)) := (((Below.refl w.heap.size w).alloc (by first | exact Nat.le_refl _ | (simp only [World.size_alloc]; omega)) (.cells #[.string a.name, .int .i64 a.op, .slice p1 a.ins.length q1, .slice p2 a.rows.length q2, .bool a.off] 39)).alloc (by first | exact Nat.le_refl _ | (simp only [World.size_alloc]; omega)) (.cells #[.string b.name, .int .i64 b.op, .slice p3 b.ins.length q3, .slice p4 b.rows.length q4, .bool b.off] 39))
          have T_new0 := ((Blk.new w #[.string a.name, .int .i64 a.op, .slice p1 a.ins.length q1, .slice p2 a.rows.length q2, .bool a.off] 39).alloc (.cells #[.string b.name, .int .i64 b.op, .slice p3 b.ins.length q3, .slice p4 b.rows.length q4, .bool b.off] 39))
          have KT_00 := Lib.hid T_new0
          clear T_new0
          have U_new0 := (Blk.new (w.alloc (.cells #[.string a.name, .int .i64 a.op, .slice p1 a.ins.length q1, .slice p2 a.rows.length q2, .bool a.off] 39)) #[.string b.name, .int .i64 b.op, .slice p3 b.ins.length q3, .slice p4 b.rows.length q4, .bool b.off] 39)
          rw [World.size_alloc] at U_new0
          have KU_00 := Lib.hid U_new0
          clear U_new0
          have I_1 := Lib.hid (H1.out.below a1)
          clear H1
          have R_1 := Lib.hid (H2.out.below a1)
          clear H2
          have J_1 := Lib.hid (H3.out.below a1)
          clear H3
          have S_1 := Lib.hid (H4.out.below a1)
          clear H4
          have B_1 := Lib.hid a1
          clear a1
          generalize ((w.alloc (.cells #[.string a.name, .int .i64 a.op, .slice p1 a.ins.length q1, .slice p2 a.rows.length q2, .bool a.off] 39)).alloc (.cells #[.string b.name, .int .i64 b.op, .slice p3 b.ins.length q3, .slice p4 b.rows.length q4, .bool b.off] 39)) = w1 at I_1 R_1 J_1 S_1 KT_00 KU_00 B_1 ⊢
          refine (equal_ex a.ins b.ins _ _ false _ l1 l3 I_1.out.lst J_1.out.lst E4.out).mono ?_
          rintro e w2 ⟨rfl, b2⟩
          have I_2 := Lib.hid (I_1.out.below b2)
          clear I_1
          have R_2 := Lib.hid (R_1.out.below b2)
          clear R_1
          have J_2 := Lib.hid (J_1.out.below b2)
          clear J_1
          have S_2 := Lib.hid (S_1.out.below b2)
          clear S_1
          have KT_2 := Lib.hid (KT_00.out.below b2 KT_00.out.lt)
          clear KT_00
          have KU_2 := Lib.hid (KU_00.out.below b2 KU_00.out.lt)
          clear KU_00
          have B_2 := Lib.hid (B_1.out.trans (b2.mono B_1.out.size))
          clear B_1
          clear b2
          go_wp2
          go_ret
          exact ⟨rfl, B_2.out⟩
        · go_enter Tryd.func61, Tryd.ntmps61
          go_wp2_with fail
          have a1 : Below w.heap.size w ((w.alloc (.cells #[.string a.name, .int .i64 a.op, .slice p1 a.ins.length q1, .slice p2 a.rows.length q2, .bool a.off] 39)).alloc (.cells #[.string b.name, .int .i64 b.op, .slice p3 b.ins.length q3, .slice p4 b.rows.length q4, .bool b.off] 39)) := (((Below.refl w.heap.size w).alloc (by first | exact Nat.le_refl _ | (simp only [World.size_alloc]; omega)) (.cells #[.string a.name, .int .i64 a.op, .slice p1 a.ins.length q1, .slice p2 a.rows.length q2, .bool a.off] 39)).alloc (by first | exact Nat.le_refl _ | (simp only [World.size_alloc]; omega)) (.cells #[.string b.name, .int .i64 b.op, .slice p3 b.ins.length q3, .slice p4 b.rows.length q4, .bool b.off] 39))
          have T_new0 := ((Blk.new w #[.string a.name, .int .i64 a.op, .slice p1 a.ins.length q1, .slice p2 a.rows.length q2, .bool a.off] 39).alloc (.cells #[.string b.name, .int .i64 b.op, .slice p3 b.ins.length q3, .slice p4 b.rows.length q4, .bool b.off] 39))
          have KT_00 := Lib.hid T_new0
          clear T_new0
          have U_new0 := (Blk.new (w.alloc (.cells #[.string a.name, .int .i64 a.op, .slice p1 a.ins.length q1, .slice p2 a.rows.length q2, .bool a.off] 39)) #[.string b.name, .int .i64 b.op, .slice p3 b.ins.length q3, .slice p4 b.rows.length q4, .bool b.off] 39)
          rw [World.size_alloc] at U_new0
          have KU_00 := Lib.hid U_new0
          clear U_new0
          have I_1 := Lib.hid (H1.out.below a1)
          clear H1
          have R_1 := Lib.hid (H2.out.below a1)
          clear H2
          have J_1 := Lib.hid (H3.out.below a1)
          clear H3
          have S_1 := Lib.hid (H4.out.below a1)
          clear H4
          have B_1 := Lib.hid a1
          clear a1
          generalize ((w.alloc (.cells #[.string a.name, .int .i64 a.op, .slice p1 a.ins.length q1, .slice p2 a.rows.length q2, .bool a.off] 39)).alloc (.cells #[.string b.name, .int .i64 b.op, .slice p3 b.ins.length q3, .slice p4 b.rows.length q4, .bool b.off] 39)) = w1 at I_1 R_1 J_1 S_1 KT_00 KU_00 B_1 ⊢
          refine (equal_ex a.ins b.ins _ _ true _ l1 l3 I_1.out.lst J_1.out.lst E4.out).mono ?_
          rintro e w2 ⟨rfl, b2⟩
          have I_2 := Lib.hid (I_1.out.below b2)
          clear I_1
          have R_2 := Lib.hid (R_1.out.below b2)
          clear R_1
          have J_2 := Lib.hid (J_1.out.below b2)
          clear J_1
          have S_2 := Lib.hid (S_1.out.below b2)
          clear S_1
          have KT_2 := Lib.hid (KT_00.out.below b2 KT_00.out.lt)
          clear KT_00
          have KU_2 := Lib.hid (KU_00.out.below b2 KU_00.out.lt)
          clear KU_00
          have B_2 := Lib.hid (B_1.out.trans (b2.mono B_1.out.size))
          clear B_1
          clear b2
          have lT_2 : w.heap.size < w2.heap.size := KT_2.out.lt
          have cT_0_2 : w2.cell? ⟨w.heap.size, 0, none⟩ = some (.string a.name) := KT_2.out.cell 0
          have cT_1_2 : w2.cell? ⟨w.heap.size, 1, none⟩ = some (.int .i64 a.op) := KT_2.out.cell 1
          have cT_2_2 : w2.cell? ⟨w.heap.size, 2, none⟩ = some (.slice p1 a.ins.length q1) := KT_2.out.cell 2
          have cT_3_2 : w2.cell? ⟨w.heap.size, 3, none⟩ = some (.slice p2 a.rows.length q2) := KT_2.out.cell 3
          have cT_4_2 : w2.cell? ⟨w.heap.size, 4, none⟩ = some (.bool a.off) := KT_2.out.cell 4
          have lU_2 : w.heap.size + 1 < w2.heap.size := KU_2.out.lt
          have cU_0_2 : w2.cell? ⟨w.heap.size + 1, 0, none⟩ = some (.string b.name) := KU_2.out.cell 0
          have cU_1_2 : w2.cell? ⟨w.heap.size + 1, 1, none⟩ = some (.int .i64 b.op) := KU_2.out.cell 1
          have cU_2_2 : w2.cell? ⟨w.heap.size + 1, 2, none⟩ = some (.slice p3 b.ins.length q3) := KU_2.out.cell 2
          have cU_3_2 : w2.cell? ⟨w.heap.size + 1, 3, none⟩ = some (.slice p4 b.rows.length q4) := KU_2.out.cell 3
          have cU_4_2 : w2.cell? ⟨w.heap.size + 1, 4, none⟩ = some (.bool b.off) := KU_2.out.cell 4
          go_wp2_with fail
          clear lT_2 cT_0_2 cT_1_2 cT_2_2 cT_3_2 cT_4_2 lU_2 cU_0_2 cU_1_2 cU_2_2 cU_3_2 cU_4_2
          refine (equal_ex a.rows b.rows _ _ b5 _ l2 l4 R_2.out.lst S_2.out.lst E5.out).mono ?_
          rintro e w3 ⟨rfl, b3⟩
          have I_3 := Lib.hid (I_2.out.below b3)
          clear I_2
          have R_3 := Lib.hid (R_2.out.below b3)
          clear R_2
          have J_3 := Lib.hid (J_2.out.below b3)
          clear J_2
          have S_3 := Lib.hid (S_2.out.below b3)
          clear S_2
          have KT_3 := Lib.hid (KT_2.out.below b3 KT_2.out.lt)
          clear KT_2
          have KU_3 := Lib.hid (KU_2.out.below b3 KU_2.out.lt)
          clear KU_2
          have B_3 := Lib.hid (B_2.out.trans (b3.mono B_2.out.size))
          clear B_2
          clear b3
          go_wp2
          go_ret
          exact ⟨rfl, B_3.out⟩

theorem rsameG_any (a b : Gt) (vi vr vi' vr' : Value) (w : World) (h1 : Inn w vi a.ins) (h2 : Inn w vr a.rows) (h3 : Inn w vi' b.ins) (h4 : Inn w vr' b.rows) (l1 : a.ins.length ≤ 100000) (l2 : a.rows.length ≤ 100000) (l3 : b.ins.length ≤ 100000) (l4 : b.rows.length ≤ 100000) :
    Calls Tryd.prog 26 #[.agg #[.string a.name, .int .i64 a.op, vi, vr, .bool a.off], .agg #[.string b.name, .int .i64 b.op, vi', vr', .bool b.off]] w fun e w' => e = .returned (.bool (gtEq a b)) ∧ Below w.heap.size w w' := by
  have H1 := Lib.hid h1
  have H2 := Lib.hid h2
  have H3 := Lib.hid h3
  have H4 := Lib.hid h4
  obtain ⟨p1, q1, rfl⟩ := h1.lst.slice
  obtain ⟨p2, q2, rfl⟩ := h2.lst.slice
  obtain ⟨p3, q3, rfl⟩ := h3.lst.slice
  obtain ⟨p4, q4, rfl⟩ := h4.lst.slice
  clear h1 h2 h3 h4
  obtain ⟨b1, e1⟩ : ∃ q, (a.name.toList == b.name.toList) = q := ⟨_, rfl⟩
  obtain ⟨b2, e2⟩ : ∃ q, (a.op == b.op) = q := ⟨_, rfl⟩
  obtain ⟨b3, e3⟩ : ∃ q, (a.off == b.off) = q := ⟨_, rfl⟩
  obtain ⟨b4, e4⟩ : ∃ q, eqL stEq a.ins b.ins = q := ⟨_, rfl⟩
  obtain ⟨b5, e5⟩ : ∃ q, eqL stEq a.rows b.rows = q := ⟨_, rfl⟩
  rw [show gtEq a b = (b1 && (b2 && (b3 && (b4 && b5)))) from by unfold gtEq stEq; rw [e1, e2, e3]; unfold stEq at e4 e5; rw [e4, e5]]
  have E4 := Lib.hid e4
  have E5 := Lib.hid e5
  clear e4 e5
  cases b1
  · go_enter Tryd.func26, Tryd.ntmps26
    have B0 : Below w.heap.size w ((w.alloc (.cells #[.string a.name, .int .i64 a.op, .slice p1 a.ins.length q1, .slice p2 a.rows.length q2, .bool a.off] 39)).alloc (.cells #[.string b.name, .int .i64 b.op, .slice p3 b.ins.length q3, .slice p4 b.rows.length q4, .bool b.off] 39)) := chain2 (below_one _ _) (below_one _ _)
    go_wp2
    go_ret
    exact ⟨rfl, B0⟩
  · cases b2
    · go_enter Tryd.func26, Tryd.ntmps26
      have B0 : Below w.heap.size w ((w.alloc (.cells #[.string a.name, .int .i64 a.op, .slice p1 a.ins.length q1, .slice p2 a.rows.length q2, .bool a.off] 39)).alloc (.cells #[.string b.name, .int .i64 b.op, .slice p3 b.ins.length q3, .slice p4 b.rows.length q4, .bool b.off] 39)) := chain2 (below_one _ _) (below_one _ _)
      go_wp2
      go_ret
      exact ⟨rfl, B0⟩
    · cases b3
      · go_enter Tryd.func26, Tryd.ntmps26
        have B0 : Below w.heap.size w ((w.alloc (.cells #[.string a.name, .int .i64 a.op, .slice p1 a.ins.length q1, .slice p2 a.rows.length q2, .bool a.off] 39)).alloc (.cells #[.string b.name, .int .i64 b.op, .slice p3 b.ins.length q3, .slice p4 b.rows.length q4, .bool b.off] 39)) := chain2 (below_one _ _) (below_one _ _)
        go_wp2
        go_ret
        exact ⟨rfl, B0⟩
      · cases b4
        · go_enter Tryd.func26, Tryd.ntmps26
          go_wp2_with fail
          have a1 : Below w.heap.size w ((w.alloc (.cells #[.string a.name, .int .i64 a.op, .slice p1 a.ins.length q1, .slice p2 a.rows.length q2, .bool a.off] 39)).alloc (.cells #[.string b.name, .int .i64 b.op, .slice p3 b.ins.length q3, .slice p4 b.rows.length q4, .bool b.off] 39)) := (((Below.refl w.heap.size w).alloc (by first | exact Nat.le_refl _ | (simp only [World.size_alloc]; omega)) (.cells #[.string a.name, .int .i64 a.op, .slice p1 a.ins.length q1, .slice p2 a.rows.length q2, .bool a.off] 39)).alloc (by first | exact Nat.le_refl _ | (simp only [World.size_alloc]; omega)) (.cells #[.string b.name, .int .i64 b.op, .slice p3 b.ins.length q3, .slice p4 b.rows.length q4, .bool b.off] 39))
          have T_new0 := ((Blk.new w #[.string a.name, .int .i64 a.op, .slice p1 a.ins.length q1, .slice p2 a.rows.length q2, .bool a.off] 39).alloc (.cells #[.string b.name, .int .i64 b.op, .slice p3 b.ins.length q3, .slice p4 b.rows.length q4, .bool b.off] 39))
          have KT_00 := Lib.hid T_new0
          clear T_new0
          have U_new0 := (Blk.new (w.alloc (.cells #[.string a.name, .int .i64 a.op, .slice p1 a.ins.length q1, .slice p2 a.rows.length q2, .bool a.off] 39)) #[.string b.name, .int .i64 b.op, .slice p3 b.ins.length q3, .slice p4 b.rows.length q4, .bool b.off] 39)
          rw [World.size_alloc] at U_new0
          have KU_00 := Lib.hid U_new0
          clear U_new0
          have I_1 := Lib.hid (H1.out.below a1)
          clear H1
          have R_1 := Lib.hid (H2.out.below a1)
          clear H2
          have J_1 := Lib.hid (H3.out.below a1)
          clear H3
          have S_1 := Lib.hid (H4.out.below a1)
          clear H4
          have B_1 := Lib.hid a1
          clear a1
          generalize ((w.alloc (.cells #[.string a.name, .int .i64 a.op, .slice p1 a.ins.length q1, .slice p2 a.rows.length q2, .bool a.off] 39)).alloc (.cells #[.string b.name, .int .i64 b.op, .slice p3 b.ins.length q3, .slice p4 b.rows.length q4, .bool b.off] 39)) = w1 at I_1 R_1 J_1 S_1 KT_00 KU_00 B_1 ⊢
          refine (texts_ex a.ins b.ins _ _ false _ l1 l3 I_1.out.lst J_1.out.lst E4.out).mono ?_
          rintro e w2 ⟨rfl, b2⟩
          have I_2 := Lib.hid (I_1.out.below b2)
          clear I_1
          have R_2 := Lib.hid (R_1.out.below b2)
          clear R_1
          have J_2 := Lib.hid (J_1.out.below b2)
          clear J_1
          have S_2 := Lib.hid (S_1.out.below b2)
          clear S_1
          have KT_2 := Lib.hid (KT_00.out.below b2 KT_00.out.lt)
          clear KT_00
          have KU_2 := Lib.hid (KU_00.out.below b2 KU_00.out.lt)
          clear KU_00
          have B_2 := Lib.hid (B_1.out.trans (b2.mono B_1.out.size))
          clear B_1
          clear b2
          go_wp2
          go_ret
          exact ⟨rfl, B_2.out⟩
        · go_enter Tryd.func26, Tryd.ntmps26
          go_wp2_with fail
          have a1 : Below w.heap.size w ((w.alloc (.cells #[.string a.name, .int .i64 a.op, .slice p1 a.ins.length q1, .slice p2 a.rows.length q2, .bool a.off] 39)).alloc (.cells #[.string b.name, .int .i64 b.op, .slice p3 b.ins.length q3, .slice p4 b.rows.length q4, .bool b.off] 39)) := (((Below.refl w.heap.size w).alloc (by first | exact Nat.le_refl _ | (simp only [World.size_alloc]; omega)) (.cells #[.string a.name, .int .i64 a.op, .slice p1 a.ins.length q1, .slice p2 a.rows.length q2, .bool a.off] 39)).alloc (by first | exact Nat.le_refl _ | (simp only [World.size_alloc]; omega)) (.cells #[.string b.name, .int .i64 b.op, .slice p3 b.ins.length q3, .slice p4 b.rows.length q4, .bool b.off] 39))
          have T_new0 := ((Blk.new w #[.string a.name, .int .i64 a.op, .slice p1 a.ins.length q1, .slice p2 a.rows.length q2, .bool a.off] 39).alloc (.cells #[.string b.name, .int .i64 b.op, .slice p3 b.ins.length q3, .slice p4 b.rows.length q4, .bool b.off] 39))
          have KT_00 := Lib.hid T_new0
          clear T_new0
          have U_new0 := (Blk.new (w.alloc (.cells #[.string a.name, .int .i64 a.op, .slice p1 a.ins.length q1, .slice p2 a.rows.length q2, .bool a.off] 39)) #[.string b.name, .int .i64 b.op, .slice p3 b.ins.length q3, .slice p4 b.rows.length q4, .bool b.off] 39)
          rw [World.size_alloc] at U_new0
          have KU_00 := Lib.hid U_new0
          clear U_new0
          have I_1 := Lib.hid (H1.out.below a1)
          clear H1
          have R_1 := Lib.hid (H2.out.below a1)
          clear H2
          have J_1 := Lib.hid (H3.out.below a1)
          clear H3
          have S_1 := Lib.hid (H4.out.below a1)
          clear H4
          have B_1 := Lib.hid a1
          clear a1
          generalize ((w.alloc (.cells #[.string a.name, .int .i64 a.op, .slice p1 a.ins.length q1, .slice p2 a.rows.length q2, .bool a.off] 39)).alloc (.cells #[.string b.name, .int .i64 b.op, .slice p3 b.ins.length q3, .slice p4 b.rows.length q4, .bool b.off] 39)) = w1 at I_1 R_1 J_1 S_1 KT_00 KU_00 B_1 ⊢
          refine (texts_ex a.ins b.ins _ _ true _ l1 l3 I_1.out.lst J_1.out.lst E4.out).mono ?_
          rintro e w2 ⟨rfl, b2⟩
          have I_2 := Lib.hid (I_1.out.below b2)
          clear I_1
          have R_2 := Lib.hid (R_1.out.below b2)
          clear R_1
          have J_2 := Lib.hid (J_1.out.below b2)
          clear J_1
          have S_2 := Lib.hid (S_1.out.below b2)
          clear S_1
          have KT_2 := Lib.hid (KT_00.out.below b2 KT_00.out.lt)
          clear KT_00
          have KU_2 := Lib.hid (KU_00.out.below b2 KU_00.out.lt)
          clear KU_00
          have B_2 := Lib.hid (B_1.out.trans (b2.mono B_1.out.size))
          clear B_1
          clear b2
          have lT_2 : w.heap.size < w2.heap.size := KT_2.out.lt
          have cT_0_2 : w2.cell? ⟨w.heap.size, 0, none⟩ = some (.string a.name) := KT_2.out.cell 0
          have cT_1_2 : w2.cell? ⟨w.heap.size, 1, none⟩ = some (.int .i64 a.op) := KT_2.out.cell 1
          have cT_2_2 : w2.cell? ⟨w.heap.size, 2, none⟩ = some (.slice p1 a.ins.length q1) := KT_2.out.cell 2
          have cT_3_2 : w2.cell? ⟨w.heap.size, 3, none⟩ = some (.slice p2 a.rows.length q2) := KT_2.out.cell 3
          have cT_4_2 : w2.cell? ⟨w.heap.size, 4, none⟩ = some (.bool a.off) := KT_2.out.cell 4
          have lU_2 : w.heap.size + 1 < w2.heap.size := KU_2.out.lt
          have cU_0_2 : w2.cell? ⟨w.heap.size + 1, 0, none⟩ = some (.string b.name) := KU_2.out.cell 0
          have cU_1_2 : w2.cell? ⟨w.heap.size + 1, 1, none⟩ = some (.int .i64 b.op) := KU_2.out.cell 1
          have cU_2_2 : w2.cell? ⟨w.heap.size + 1, 2, none⟩ = some (.slice p3 b.ins.length q3) := KU_2.out.cell 2
          have cU_3_2 : w2.cell? ⟨w.heap.size + 1, 3, none⟩ = some (.slice p4 b.rows.length q4) := KU_2.out.cell 3
          have cU_4_2 : w2.cell? ⟨w.heap.size + 1, 4, none⟩ = some (.bool b.off) := KU_2.out.cell 4
          go_wp2_with fail
          clear lT_2 cT_0_2 cT_1_2 cT_2_2 cT_3_2 cT_4_2 lU_2 cU_0_2 cU_1_2 cU_2_2 cU_3_2 cU_4_2
          refine (texts_ex a.rows b.rows _ _ b5 _ l2 l4 R_2.out.lst S_2.out.lst E5.out).mono ?_
          rintro e w3 ⟨rfl, b3⟩
          have I_3 := Lib.hid (I_2.out.below b3)
          clear I_2
          have R_3 := Lib.hid (R_2.out.below b3)
          clear R_2
          have J_3 := Lib.hid (J_2.out.below b3)
          clear J_2
          have S_3 := Lib.hid (S_2.out.below b3)
          clear S_2
          have KT_3 := Lib.hid (KT_2.out.below b3 KT_2.out.lt)
          clear KT_2
          have KU_3 := Lib.hid (KU_2.out.below b3 KU_2.out.lt)
          clear KU_2
          have B_3 := Lib.hid (B_2.out.trans (b3.mono B_2.out.size))
          clear B_2
          clear b3
          go_wp2
          go_ret
          exact ⟨rfl, B_3.out⟩
end Go.Proofs.YtfkmolbcgnkfdaaDoor
