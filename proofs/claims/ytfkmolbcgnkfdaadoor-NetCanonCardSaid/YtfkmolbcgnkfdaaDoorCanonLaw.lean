/- NetCanon: the law's function, for every input. -/
import Derived.Test.YtfkmolbcgnkfdaaDoorWorks
import Derived.Test.YtfkmolbcgnkfdaaDoorCanonP
import Derived.Deep.RegionHeld3
namespace Go.Proofs.YtfkmolbcgnkfdaaDoor
open Go.RowKit
attribute [local go_sem] Oper.semAt_some
set_option maxRecDepth 100000
set_option maxHeartbeats 4000000
theorem gate_bx (g : Gt) (vi vr : Value) (q : Bool) (w : World) (hi : Inn w vi g.ins) (hr : Inn w vr g.rows) (hb : fewgB g = true) (hw : (Lit.int .i64 g.op).wf = true) (hq : gateB g = q) :
    Calls Tryd.prog 27 #[.agg #[.string g.name, .int .i64 g.op, vi, vr, .bool g.off]] w fun e w' => e = .returned (.bool q) ∧ Below w.heap.size w w' := by
  subst hq
  obtain ⟨b1, b2, b3⟩ := fewgB_get hb
  exact gate_any g vi vr w hi hr (by omega) (by omega) (fun s hs => by have := b2.2 s hs; omega) hw
theorem rsameG_self (a : Gt) (vi vr vi' vr' : Value) (w : World) (h1 : Inn w vi a.ins) (h2 : Inn w vr a.rows) (h3 : Inn w vi' a.ins) (h4 : Inn w vr' a.rows) (hb : fewgB a = true) :
    Calls Tryd.prog 26 #[.agg #[.string a.name, .int .i64 a.op, vi, vr, .bool a.off], .agg #[.string a.name, .int .i64 a.op, vi', vr', .bool a.off]] w fun e w' => e = .returned (.bool true) ∧ Below w.heap.size w w' := by
  obtain ⟨b1, b2, b3⟩ := fewgB_get hb
  have := rsameG_any a a vi vr vi' vr' w h1 h2 h3 h4 (by omega) (by omega) (by omega) (by omega)
  rwa [gtEq_self] at this
theorem texts_same (l m : List ByteArray) (v u : Value) (w : World) (hlm : l = m) (hn : l.length ≤ 1000) (ht : Lst stc w v l) (hu : Lst stc w u m) :
    Calls Tryd.prog 17 #[v, u] w fun e w' => e = .returned (.bool true) ∧ Below w.heap.size w w' := by
  subst hlm
  have := texts_any l l v u w (by omega) (by omega) ht hu
  rwa [eqL_self] at this
  exact stEq_self
theorem one_few (g : Gt) (hb : fewgB g = true) : fewgB ⟨g.name, g.op, [⟨#[97]⟩], [], false⟩ = true := by
  obtain ⟨b1, b2, b3⟩ := fewgB_get hb
  unfold fewgB
  rw [show fewB [⟨#[97]⟩] 12 = true from by decide, decide_eq_true b3]
  rfl
theorem canon_one1 (g y : Gt) (vi vr : Value) (w : World) (hi : Inn w vi [⟨#[97]⟩]) (hr : Inn w vr []) (hb : fewgB g = true) (hw : (Lit.int .i64 g.op).wf = true) (hq : canonF ⟨g.name, g.op, [⟨#[97]⟩], [], false⟩ = y) :
    Calls Tryd.prog 25 #[.agg #[.string g.name, .int .i64 g.op, vi, vr, .bool false]] w fun e w' => ∃ (u : Option Addr) (k : Nat) (p : Option Addr) (m : Nat), e = .returned (.agg #[.string y.name, .int .i64 y.op, .slice u y.ins.length k, .slice p y.rows.length m, .bool y.off]) ∧
      (Inn w' (.slice u y.ins.length k) y.ins ∧ Inn w' (.slice p y.rows.length m) y.rows ∧ (Lit.int .i64 y.op).wf = true) ∧ Below w.heap.size w w' :=
  canon_ex ⟨g.name, g.op, [⟨#[97]⟩], [], false⟩ y vi vr w hi hr (one_few g hb) hw hq
theorem law_canon (g : Gt) (vi vr : Value) (w : World) (hi : Inn w vi g.ins) (hr : Inn w vr g.rows) (hw : (Lit.int .i64 g.op).wf = true) :
    Calls Tryd.prog 4 #[.agg #[.string g.name, .int .i64 g.op, vi, vr, .bool g.off]] w fun e w' => e = .returned (.bool true) ∧ Below w.heap.size w w' := by
  have HI := Lib.hid hi
  have HR := Lib.hid hr
  obtain ⟨pi, qi, rfl⟩ := hi.lst.slice
  obtain ⟨pr, qr, rfl⟩ := hr.lst.slice
  have HW := Lib.hid hw
  clear hi hr hw
  obtain ⟨f1, hf1⟩ : ∃ q, fewgB g = q := ⟨_, rfl⟩
  obtain ⟨q, hq⟩ : ∃ q, gateB g = q := ⟨_, rfl⟩
  obtain ⟨x, hx⟩ : ∃ x, canonF g = x := ⟨_, rfl⟩
  have hxx : canonF x = x := by rw [← hx, canonF_twice]
  have hxn : x.name = g.name := by rw [← hx, canonF_name]
  have hxi : x.ins = g.ins := by rw [← hx, canonF_ins]
  have hxg : gateB g = true → gateB x = true := fun h => by rw [← hx]; exact canonF_gate h
  have hxf : fewgB g = true → fewgB x = true := fun h => by rw [← hx]; exact fewgB_canon h
  obtain ⟨y, hy⟩ : ∃ y, canonF ⟨g.name, g.op, [⟨#[97]⟩], [], false⟩ = y := ⟨_, rfl⟩
  have hyg : 2 ≤ g.op → g.op ≤ 9 → gateB y = true := fun h h' => by rw [← hy]; exact canonF_makes h h'
  have hyf : fewgB g = true → fewgB y = true := fun h => by rw [← hy]; exact fewgB_canon (one_few g h)
  have hne : (x.name.toList == g.name.toList) = true := by rw [hxn]; exact tl_self _
  have HF := Lib.hid hf1
  have HQ := Lib.hid hq
  have HX := Lib.hid hx
  have HXX := Lib.hid hxx
  have HXI := Lib.hid hxi
  have HXG := Lib.hid hxg
  have HXF := Lib.hid hxf
  have HY := Lib.hid hy
  have HYG := Lib.hid hyg
  have HYF := Lib.hid hyf
  clear hf1 hq hx hxx hxn hxi hxg hxf hy hyg hyf
  go_enter Tryd.func4, Tryd.ntmps4
  go_wp2_with fail
  have a1 : Below w.heap.size w (w.alloc (.cells #[.string g.name, .int .i64 g.op, .slice pi g.ins.length qi, .slice pr g.rows.length qr, .bool g.off] 39)) := ((Below.refl w.heap.size w).alloc (by first | exact Nat.le_refl _ | (simp only [World.size_alloc]; omega)) (.cells #[.string g.name, .int .i64 g.op, .slice pi g.ins.length qi, .slice pr g.rows.length qr, .bool g.off] 39))
  have T_new0 := (Blk.new w #[.string g.name, .int .i64 g.op, .slice pi g.ins.length qi, .slice pr g.rows.length qr, .bool g.off] 39)
  have KT_00 := Lib.hid T_new0
  clear T_new0
  have I_1 := Lib.hid (HI.out.below a1)
  clear HI
  have R_1 := Lib.hid (HR.out.below a1)
  clear HR
  have B_1 := Lib.hid a1
  clear a1
  generalize (w.alloc (.cells #[.string g.name, .int .i64 g.op, .slice pi g.ins.length qi, .slice pr g.rows.length qr, .bool g.off] 39)) = w1 at I_1 R_1 KT_00 B_1 ⊢
  refine (works_any _).mono ?_
  rintro e w2 ⟨rfl, b2⟩
  have I_2 := Lib.hid (I_1.out.below b2)
  clear I_1
  have R_2 := Lib.hid (R_1.out.below b2)
  clear R_1
  have KT_2 := Lib.hid (KT_00.out.below b2 KT_00.out.lt)
  clear KT_00
  have B_2 := Lib.hid (B_1.out.trans (b2.mono B_1.out.size))
  clear B_1
  clear b2
  have lT_2 : w.heap.size < w2.heap.size := KT_2.out.lt
  have cT_0_2 : w2.cell? ⟨w.heap.size, 0, none⟩ = some (.string g.name) := KT_2.out.cell 0
  have cT_1_2 : w2.cell? ⟨w.heap.size, 1, none⟩ = some (.int .i64 g.op) := KT_2.out.cell 1
  have cT_2_2 : w2.cell? ⟨w.heap.size, 2, none⟩ = some (.slice pi g.ins.length qi) := KT_2.out.cell 2
  have cT_3_2 : w2.cell? ⟨w.heap.size, 3, none⟩ = some (.slice pr g.rows.length qr) := KT_2.out.cell 3
  have cT_4_2 : w2.cell? ⟨w.heap.size, 4, none⟩ = some (.bool g.off) := KT_2.out.cell 4
  go_wp2_with fail
  clear lT_2 cT_0_2 cT_1_2 cT_2_2 cT_3_2 cT_4_2
  refine (fewg_any g _ _ f1 _ I_2.out R_2.out HF.out).mono ?_
  rintro e w3 ⟨rfl, b3⟩
  have I_3 := Lib.hid (I_2.out.below b3)
  clear I_2
  have R_3 := Lib.hid (R_2.out.below b3)
  clear R_2
  have KT_3 := Lib.hid (KT_2.out.below b3 KT_2.out.lt)
  clear KT_2
  have B_3 := Lib.hid (B_2.out.trans (b3.mono B_2.out.size))
  clear B_2
  clear b3
  have lT_3 : w.heap.size < w3.heap.size := KT_3.out.lt
  have cT_0_3 : w3.cell? ⟨w.heap.size, 0, none⟩ = some (.string g.name) := KT_3.out.cell 0
  have cT_1_3 : w3.cell? ⟨w.heap.size, 1, none⟩ = some (.int .i64 g.op) := KT_3.out.cell 1
  have cT_2_3 : w3.cell? ⟨w.heap.size, 2, none⟩ = some (.slice pi g.ins.length qi) := KT_3.out.cell 2
  have cT_3_3 : w3.cell? ⟨w.heap.size, 3, none⟩ = some (.slice pr g.rows.length qr) := KT_3.out.cell 3
  have cT_4_3 : w3.cell? ⟨w.heap.size, 4, none⟩ = some (.bool g.off) := KT_3.out.cell 4
  cases f1
  · go_wp2
    go_ret
    exact ⟨rfl, B_3.out⟩
  · go_wp2_with fail
    clear lT_3 cT_0_3 cT_1_3 cT_2_3 cT_3_3 cT_4_3
    refine (canon_ex g x _ _ _ I_3.out R_3.out HF.out HW.out HX.out).mono ?_
    rintro e w4 ⟨xu, xk, xp, xm, rfl, ⟨xi, xr, xw⟩, b4⟩
    have I_4 := Lib.hid (I_3.out.below b4)
    clear I_3
    have R_4 := Lib.hid (R_3.out.below b4)
    clear R_3
    have KT_4 := Lib.hid (KT_3.out.below b4 KT_3.out.lt)
    clear KT_3
    have B_4 := Lib.hid (B_3.out.trans (b4.mono B_3.out.size))
    clear B_3
    clear b4
    have HXW := Lib.hid xw
    clear xw
    have XI := Lib.hid xi
    clear xi
    have XR := Lib.hid xr
    clear xr
    have lT_4 : w.heap.size < w4.heap.size := KT_4.out.lt
    have cT_0_4 : w4.cell? ⟨w.heap.size, 0, none⟩ = some (.string g.name) := KT_4.out.cell 0
    have cT_1_4 : w4.cell? ⟨w.heap.size, 1, none⟩ = some (.int .i64 g.op) := KT_4.out.cell 1
    have cT_2_4 : w4.cell? ⟨w.heap.size, 2, none⟩ = some (.slice pi g.ins.length qi) := KT_4.out.cell 2
    have cT_3_4 : w4.cell? ⟨w.heap.size, 3, none⟩ = some (.slice pr g.rows.length qr) := KT_4.out.cell 3
    have cT_4_4 : w4.cell? ⟨w.heap.size, 4, none⟩ = some (.bool g.off) := KT_4.out.cell 4
    go_wp2_with fail
    clear lT_4 cT_0_4 cT_1_4 cT_2_4 cT_3_4 cT_4_4
    have a2 : Below w4.heap.size w4 (w4.alloc (.cells #[.string x.name, .int .i64 x.op, .slice xu x.ins.length xk, .slice xp x.rows.length xm, .bool x.off] 39)) := ((Below.refl w4.heap.size w4).alloc (by first | exact Nat.le_refl _ | (simp only [World.size_alloc]; omega)) (.cells #[.string x.name, .int .i64 x.op, .slice xu x.ins.length xk, .slice xp x.rows.length xm, .bool x.off] 39))
    have X_new4 := (Blk.new w4 #[.string x.name, .int .i64 x.op, .slice xu x.ins.length xk, .slice xp x.rows.length xm, .bool x.off] 39)
    have KX_04 := Lib.hid X_new4
    clear X_new4
    have I_5 := Lib.hid (I_4.out.below a2)
    clear I_4
    have R_5 := Lib.hid (R_4.out.below a2)
    clear R_4
    have XI_5 := Lib.hid (XI.out.below a2)
    clear XI
    have XR_5 := Lib.hid (XR.out.below a2)
    clear XR
    have KT_5 := Lib.hid (KT_4.out.below a2 KT_4.out.lt)
    clear KT_4
    have B_5 := Lib.hid (B_4.out.trans (a2.mono B_4.out.size))
    clear B_4
    clear a2
    generalize (w4.alloc (.cells #[.string x.name, .int .i64 x.op, .slice xu x.ins.length xk, .slice xp x.rows.length xm, .bool x.off] 39)) = w5 at I_5 R_5 XI_5 XR_5 KT_5 KX_04 B_5 ⊢
    have lT_5 : w.heap.size < w5.heap.size := KT_5.out.lt
    have cT_0_5 : w5.cell? ⟨w.heap.size, 0, none⟩ = some (.string g.name) := KT_5.out.cell 0
    have cT_1_5 : w5.cell? ⟨w.heap.size, 1, none⟩ = some (.int .i64 g.op) := KT_5.out.cell 1
    have cT_2_5 : w5.cell? ⟨w.heap.size, 2, none⟩ = some (.slice pi g.ins.length qi) := KT_5.out.cell 2
    have cT_3_5 : w5.cell? ⟨w.heap.size, 3, none⟩ = some (.slice pr g.rows.length qr) := KT_5.out.cell 3
    have cT_4_5 : w5.cell? ⟨w.heap.size, 4, none⟩ = some (.bool g.off) := KT_5.out.cell 4
    have lX_5 : w4.heap.size < w5.heap.size := KX_04.out.lt
    have cX_0_5 : w5.cell? ⟨w4.heap.size, 0, none⟩ = some (.string x.name) := KX_04.out.cell 0
    have cX_1_5 : w5.cell? ⟨w4.heap.size, 1, none⟩ = some (.int .i64 x.op) := KX_04.out.cell 1
    have cX_2_5 : w5.cell? ⟨w4.heap.size, 2, none⟩ = some (.slice xu x.ins.length xk) := KX_04.out.cell 2
    have cX_3_5 : w5.cell? ⟨w4.heap.size, 3, none⟩ = some (.slice xp x.rows.length xm) := KX_04.out.cell 3
    have cX_4_5 : w5.cell? ⟨w4.heap.size, 4, none⟩ = some (.bool x.off) := KX_04.out.cell 4
    go_wp2_with fail
    clear lT_5 cT_0_5 cT_1_5 cT_2_5 cT_3_5 cT_4_5 lX_5 cX_0_5 cX_1_5 cX_2_5 cX_3_5 cX_4_5
    have hd6 : Below w5.heap.size w5 w5.drew := (Below.refl _ _).drew
    have HS6 : Hid (∀ X : World, Below w5.heap.size w5 X → X.cell? ⟨w4.heap.size, 0, none⟩ = some (.string x.name) ∧ X.cell? ⟨w4.heap.size, 1, none⟩ = some (.int .i64 x.op) ∧ X.cell? ⟨w4.heap.size, 2, none⟩ = some (.slice xu x.ins.length xk) ∧ X.cell? ⟨w4.heap.size, 3, none⟩ = some (.slice xp x.rows.length xm) ∧ X.cell? ⟨w4.heap.size, 4, none⟩ = some (.bool x.off)) := Lib.hid fun X h => ⟨(h.cell (p := ⟨w4.heap.size, 0, none⟩) KX_04.out.lt).trans (KX_04.out.cell 0), (h.cell (p := ⟨w4.heap.size, 1, none⟩) KX_04.out.lt).trans (KX_04.out.cell 1), (h.cell (p := ⟨w4.heap.size, 2, none⟩) KX_04.out.lt).trans (KX_04.out.cell 2), (h.cell (p := ⟨w4.heap.size, 3, none⟩) KX_04.out.lt).trans (KX_04.out.cell 3), (h.cell (p := ⟨w4.heap.size, 4, none⟩) KX_04.out.lt).trans (KX_04.out.cell 4)⟩
    obtain ⟨x6_0, x6_1, x6_2, x6_3, x6_4⟩ := HS6.out _ hd6
    first | go_loud (go_region_held3 (fun X => X.cell? ⟨w4.heap.size, 0, none⟩ = some (.string x.name) ∧ X.cell? ⟨w4.heap.size, 1, none⟩ = some (.int .i64 x.op) ∧ X.cell? ⟨w4.heap.size, 2, none⟩ = some (.slice xu x.ins.length xk) ∧ X.cell? ⟨w4.heap.size, 3, none⟩ = some (.slice xp x.rows.length xm) ∧ X.cell? ⟨w4.heap.size, 4, none⟩ = some (.bool x.off) ∧ Below w5.heap.size w5 X) (go_keep)
      (first | (go_at_call 25; (with_reducible refine (canon_ex x x _ _ _ (XI_5.out.below (by assumption)) (XR_5.out.below (by assumption)) (HXF.out HF.out) HXW.out HXX.out).mono ?_); rintro e w6 ⟨yu, yk, yp, ym, rfl, ⟨yi, yr, yw⟩, hb⟩; have rB6 := chain (a := w5) hb (by assumption); obtain ⟨x6_0, x6_1, x6_2, x6_3, x6_4⟩ := HS6.out _ rB6; clear yw; clear hb) | (go_at_call 26; (with_reducible refine (rsameG_self x _ _ _ _ _ yi yr (XI_5.out.below (by assumption)) (XR_5.out.below (by assumption)) (HXF.out HF.out)).mono ?_); rintro e w6 ⟨rfl, hb⟩; have rB6 := chain (a := w5) hb (by assumption); obtain ⟨x6_0, x6_1, x6_2, x6_3, x6_4⟩ := HS6.out _ rB6; clear hb))) | fail
    have b6 : Below w5.heap.size w5 w6 := by assumption
    clear HS6
    have I_6 := Lib.hid (I_5.out.below b6)
    clear I_5
    have R_6 := Lib.hid (R_5.out.below b6)
    clear R_5
    have XI_6 := Lib.hid (XI_5.out.below b6)
    clear XI_5
    have XR_6 := Lib.hid (XR_5.out.below b6)
    clear XR_5
    have KT_6 := Lib.hid (KT_5.out.below b6 KT_5.out.lt)
    clear KT_5
    have KX_6 := Lib.hid (KX_04.out.below b6 KX_04.out.lt)
    clear KX_04
    have B_6 := Lib.hid (B_5.out.trans (b6.mono B_5.out.size))
    clear B_5
    clear yi yr
    have lT_6 : w.heap.size < w6.heap.size := KT_6.out.lt
    have cT_0_6 : w6.cell? ⟨w.heap.size, 0, none⟩ = some (.string g.name) := KT_6.out.cell 0
    have cT_1_6 : w6.cell? ⟨w.heap.size, 1, none⟩ = some (.int .i64 g.op) := KT_6.out.cell 1
    have cT_2_6 : w6.cell? ⟨w.heap.size, 2, none⟩ = some (.slice pi g.ins.length qi) := KT_6.out.cell 2
    have cT_3_6 : w6.cell? ⟨w.heap.size, 3, none⟩ = some (.slice pr g.rows.length qr) := KT_6.out.cell 3
    have cT_4_6 : w6.cell? ⟨w.heap.size, 4, none⟩ = some (.bool g.off) := KT_6.out.cell 4
    have lX_6 : w4.heap.size < w6.heap.size := KX_6.out.lt
    have cX_0_6 : w6.cell? ⟨w4.heap.size, 0, none⟩ = some (.string x.name) := KX_6.out.cell 0
    have cX_1_6 : w6.cell? ⟨w4.heap.size, 1, none⟩ = some (.int .i64 x.op) := KX_6.out.cell 1
    have cX_2_6 : w6.cell? ⟨w4.heap.size, 2, none⟩ = some (.slice xu x.ins.length xk) := KX_6.out.cell 2
    have cX_3_6 : w6.cell? ⟨w4.heap.size, 3, none⟩ = some (.slice xp x.rows.length xm) := KX_6.out.cell 3
    have cX_4_6 : w6.cell? ⟨w4.heap.size, 4, none⟩ = some (.bool x.off) := KX_6.out.cell 4
    by_cases h2 : 2 ≤ g.op
    · by_cases h9 : g.op ≤ 9
      · have HYG2 := Lib.hid (HYG.out h2 h9)
        go_wp2_with fail
        clear lT_6 cT_0_6 cT_1_6 cT_2_6 cT_3_6 cT_4_6 lX_6 cX_0_6 cX_1_6 cX_2_6 cX_3_6 cX_4_6
        have a3 : Below w6.heap.size w6 ((w6.alloc (.cells #[.string ⟨#[97]⟩] 9)).alloc (.cells #[.string g.name, .int .i64 g.op, .slice (some ⟨w6.heap.size, 0, none⟩) 1 1, .slice none 0 0, .bool false] 39)) := (((Below.refl w6.heap.size w6).alloc (by first | exact Nat.le_refl _ | (simp only [World.size_alloc]; omega)) (.cells #[.string ⟨#[97]⟩] 9)).alloc (by first | exact Nat.le_refl _ | (simp only [World.size_alloc]; omega)) (.cells #[.string g.name, .int .i64 g.op, .slice (some ⟨w6.heap.size, 0, none⟩) 1 1, .slice none 0 0, .bool false] 39))
        have p_new6 := ((Blk.new w6 #[.string ⟨#[97]⟩] 9).alloc (.cells #[.string g.name, .int .i64 g.op, .slice (some ⟨w6.heap.size, 0, none⟩) 1 1, .slice none 0 0, .bool false] 39))
        have Kp_06 := Lib.hid p_new6
        clear p_new6
        have O_new6 := (Blk.new (w6.alloc (.cells #[.string ⟨#[97]⟩] 9)) #[.string g.name, .int .i64 g.op, .slice (some ⟨w6.heap.size, 0, none⟩) 1 1, .slice none 0 0, .bool false] 39)
        rw [World.size_alloc] at O_new6
        have KO_06 := Lib.hid O_new6
        clear O_new6
        have I_7 := Lib.hid (I_6.out.below a3)
        clear I_6
        have R_7 := Lib.hid (R_6.out.below a3)
        clear R_6
        have XI_7 := Lib.hid (XI_6.out.below a3)
        clear XI_6
        have XR_7 := Lib.hid (XR_6.out.below a3)
        clear XR_6
        have KT_7 := Lib.hid (KT_6.out.below a3 KT_6.out.lt)
        clear KT_6
        have KX_7 := Lib.hid (KX_6.out.below a3 KX_6.out.lt)
        clear KX_6
        have B_7 := Lib.hid (B_6.out.trans (a3.mono B_6.out.size))
        clear B_6
        clear a3
        generalize ((w6.alloc (.cells #[.string ⟨#[97]⟩] 9)).alloc (.cells #[.string g.name, .int .i64 g.op, .slice (some ⟨w6.heap.size, 0, none⟩) 1 1, .slice none 0 0, .bool false] 39)) = w7 at I_7 R_7 XI_7 XR_7 KT_7 KX_7 Kp_06 KO_06 B_7 ⊢
        refine (texts_same x.ins g.ins _ _ _ HXI.out (by rw [HXI.out]; have := (fewgB_get HF.out).1.1; omega) XI_7.out.lst I_7.out.lst).mono ?_
        rintro e w8 ⟨rfl, b8⟩
        have I_8 := Lib.hid (I_7.out.below b8)
        clear I_7
        have R_8 := Lib.hid (R_7.out.below b8)
        clear R_7
        have XI_8 := Lib.hid (XI_7.out.below b8)
        clear XI_7
        have XR_8 := Lib.hid (XR_7.out.below b8)
        clear XR_7
        have KT_8 := Lib.hid (KT_7.out.below b8 KT_7.out.lt)
        clear KT_7
        have KX_8 := Lib.hid (KX_7.out.below b8 KX_7.out.lt)
        clear KX_7
        have Kp_8 := Lib.hid (Kp_06.out.below b8 Kp_06.out.lt)
        clear Kp_06
        have KO_8 := Lib.hid (KO_06.out.below b8 KO_06.out.lt)
        clear KO_06
        have B_8 := Lib.hid (B_7.out.trans (b8.mono B_7.out.size))
        clear B_7
        clear b8
        have lT_8 : w.heap.size < w8.heap.size := KT_8.out.lt
        have cT_0_8 : w8.cell? ⟨w.heap.size, 0, none⟩ = some (.string g.name) := KT_8.out.cell 0
        have cT_1_8 : w8.cell? ⟨w.heap.size, 1, none⟩ = some (.int .i64 g.op) := KT_8.out.cell 1
        have cT_2_8 : w8.cell? ⟨w.heap.size, 2, none⟩ = some (.slice pi g.ins.length qi) := KT_8.out.cell 2
        have cT_3_8 : w8.cell? ⟨w.heap.size, 3, none⟩ = some (.slice pr g.rows.length qr) := KT_8.out.cell 3
        have cT_4_8 : w8.cell? ⟨w.heap.size, 4, none⟩ = some (.bool g.off) := KT_8.out.cell 4
        have lX_8 : w4.heap.size < w8.heap.size := KX_8.out.lt
        have cX_0_8 : w8.cell? ⟨w4.heap.size, 0, none⟩ = some (.string x.name) := KX_8.out.cell 0
        have cX_1_8 : w8.cell? ⟨w4.heap.size, 1, none⟩ = some (.int .i64 x.op) := KX_8.out.cell 1
        have cX_2_8 : w8.cell? ⟨w4.heap.size, 2, none⟩ = some (.slice xu x.ins.length xk) := KX_8.out.cell 2
        have cX_3_8 : w8.cell? ⟨w4.heap.size, 3, none⟩ = some (.slice xp x.rows.length xm) := KX_8.out.cell 3
        have cX_4_8 : w8.cell? ⟨w4.heap.size, 4, none⟩ = some (.bool x.off) := KX_8.out.cell 4
        have lO_8 : w6.heap.size + 1 < w8.heap.size := KO_8.out.lt
        have cO_0_8 : w8.cell? ⟨w6.heap.size + 1, 0, none⟩ = some (.string g.name) := KO_8.out.cell 0
        have cO_1_8 : w8.cell? ⟨w6.heap.size + 1, 1, none⟩ = some (.int .i64 g.op) := KO_8.out.cell 1
        have cO_2_8 : w8.cell? ⟨w6.heap.size + 1, 2, none⟩ = some (.slice (some ⟨w6.heap.size, 0, none⟩) 1 1) := KO_8.out.cell 2
        have cO_3_8 : w8.cell? ⟨w6.heap.size + 1, 3, none⟩ = some (.slice none 0 0) := KO_8.out.cell 3
        have cO_4_8 : w8.cell? ⟨w6.heap.size + 1, 4, none⟩ = some (.bool false) := KO_8.out.cell 4
        go_wp2_with fail
        clear lT_8 cT_0_8 cT_1_8 cT_2_8 cT_3_8 cT_4_8 lX_8 cX_0_8 cX_1_8 cX_2_8 cX_3_8 cX_4_8 lO_8 cO_0_8 cO_1_8 cO_2_8 cO_3_8 cO_4_8
        refine (gate_bx g _ _ q _ I_8.out R_8.out HF.out HW.out HQ.out).mono ?_
        rintro e w9 ⟨rfl, b9⟩
        have I_9 := Lib.hid (I_8.out.below b9)
        clear I_8
        have R_9 := Lib.hid (R_8.out.below b9)
        clear R_8
        have XI_9 := Lib.hid (XI_8.out.below b9)
        clear XI_8
        have XR_9 := Lib.hid (XR_8.out.below b9)
        clear XR_8
        have KT_9 := Lib.hid (KT_8.out.below b9 KT_8.out.lt)
        clear KT_8
        have KX_9 := Lib.hid (KX_8.out.below b9 KX_8.out.lt)
        clear KX_8
        have Kp_9 := Lib.hid (Kp_8.out.below b9 Kp_8.out.lt)
        clear Kp_8
        have KO_9 := Lib.hid (KO_8.out.below b9 KO_8.out.lt)
        clear KO_8
        have B_9 := Lib.hid (B_8.out.trans (b9.mono B_8.out.size))
        clear B_8
        clear b9
        cases q
        · have lT_9 : w.heap.size < w9.heap.size := KT_9.out.lt
          have cT_0_9 : w9.cell? ⟨w.heap.size, 0, none⟩ = some (.string g.name) := KT_9.out.cell 0
          have cT_1_9 : w9.cell? ⟨w.heap.size, 1, none⟩ = some (.int .i64 g.op) := KT_9.out.cell 1
          have cT_2_9 : w9.cell? ⟨w.heap.size, 2, none⟩ = some (.slice pi g.ins.length qi) := KT_9.out.cell 2
          have cT_3_9 : w9.cell? ⟨w.heap.size, 3, none⟩ = some (.slice pr g.rows.length qr) := KT_9.out.cell 3
          have cT_4_9 : w9.cell? ⟨w.heap.size, 4, none⟩ = some (.bool g.off) := KT_9.out.cell 4
          have lX_9 : w4.heap.size < w9.heap.size := KX_9.out.lt
          have cX_0_9 : w9.cell? ⟨w4.heap.size, 0, none⟩ = some (.string x.name) := KX_9.out.cell 0
          have cX_1_9 : w9.cell? ⟨w4.heap.size, 1, none⟩ = some (.int .i64 x.op) := KX_9.out.cell 1
          have cX_2_9 : w9.cell? ⟨w4.heap.size, 2, none⟩ = some (.slice xu x.ins.length xk) := KX_9.out.cell 2
          have cX_3_9 : w9.cell? ⟨w4.heap.size, 3, none⟩ = some (.slice xp x.rows.length xm) := KX_9.out.cell 3
          have cX_4_9 : w9.cell? ⟨w4.heap.size, 4, none⟩ = some (.bool x.off) := KX_9.out.cell 4
          have lO_9 : w6.heap.size + 1 < w9.heap.size := KO_9.out.lt
          have cO_0_9 : w9.cell? ⟨w6.heap.size + 1, 0, none⟩ = some (.string g.name) := KO_9.out.cell 0
          have cO_1_9 : w9.cell? ⟨w6.heap.size + 1, 1, none⟩ = some (.int .i64 g.op) := KO_9.out.cell 1
          have cO_2_9 : w9.cell? ⟨w6.heap.size + 1, 2, none⟩ = some (.slice (some ⟨w6.heap.size, 0, none⟩) 1 1) := KO_9.out.cell 2
          have cO_3_9 : w9.cell? ⟨w6.heap.size + 1, 3, none⟩ = some (.slice none 0 0) := KO_9.out.cell 3
          have cO_4_9 : w9.cell? ⟨w6.heap.size + 1, 4, none⟩ = some (.bool false) := KO_9.out.cell 4
          go_wp2_with fail
          clear lT_9 cT_0_9 cT_1_9 cT_2_9 cT_3_9 cT_4_9 lX_9 cX_0_9 cX_1_9 cX_2_9 cX_3_9 cX_4_9 lO_9 cO_0_9 cO_1_9 cO_2_9 cO_3_9 cO_4_9
          refine (canon_one1 g y _ _ _ (inn_blk (l := [⟨#[97]⟩]) Kp_9.out rfl (by decide) (by decide)) Inn.none HF.out HW.out HY.out).mono ?_
          rintro e w10 ⟨ou, ok, op, om, rfl, ⟨oi, or', ow⟩, b10⟩
          have I_10 := Lib.hid (I_9.out.below b10)
          clear I_9
          have R_10 := Lib.hid (R_9.out.below b10)
          clear R_9
          have XI_10 := Lib.hid (XI_9.out.below b10)
          clear XI_9
          have XR_10 := Lib.hid (XR_9.out.below b10)
          clear XR_9
          have KT_10 := Lib.hid (KT_9.out.below b10 KT_9.out.lt)
          clear KT_9
          have KX_10 := Lib.hid (KX_9.out.below b10 KX_9.out.lt)
          clear KX_9
          have Kp_10 := Lib.hid (Kp_9.out.below b10 Kp_9.out.lt)
          clear Kp_9
          have KO_10 := Lib.hid (KO_9.out.below b10 KO_9.out.lt)
          clear KO_9
          have B_10 := Lib.hid (B_9.out.trans (b10.mono B_9.out.size))
          clear B_9
          clear b10
          go_wp2_with fail
          refine (gate_bx y _ _ true _ oi or' (HYF.out HF.out) ow HYG2.out).mono ?_
          rintro e w11 ⟨rfl, b9⟩
          have I_11 := Lib.hid (I_10.out.below b9)
          clear I_10
          have R_11 := Lib.hid (R_10.out.below b9)
          clear R_10
          have XI_11 := Lib.hid (XI_10.out.below b9)
          clear XI_10
          have XR_11 := Lib.hid (XR_10.out.below b9)
          clear XR_10
          have KT_11 := Lib.hid (KT_10.out.below b9 KT_10.out.lt)
          clear KT_10
          have KX_11 := Lib.hid (KX_10.out.below b9 KX_10.out.lt)
          clear KX_10
          have Kp_11 := Lib.hid (Kp_10.out.below b9 Kp_10.out.lt)
          clear Kp_10
          have KO_11 := Lib.hid (KO_10.out.below b9 KO_10.out.lt)
          clear KO_10
          have B_11 := Lib.hid (B_10.out.trans (b9.mono B_10.out.size))
          clear B_10
          clear b9 oi or' ow
          go_wp2
          go_ret
          exact ⟨rfl, B_11.out⟩
        · have HXQ := Lib.hid (HXG.out HQ.out)
          have lT_9 : w.heap.size < w9.heap.size := KT_9.out.lt
          have cT_0_9 : w9.cell? ⟨w.heap.size, 0, none⟩ = some (.string g.name) := KT_9.out.cell 0
          have cT_1_9 : w9.cell? ⟨w.heap.size, 1, none⟩ = some (.int .i64 g.op) := KT_9.out.cell 1
          have cT_2_9 : w9.cell? ⟨w.heap.size, 2, none⟩ = some (.slice pi g.ins.length qi) := KT_9.out.cell 2
          have cT_3_9 : w9.cell? ⟨w.heap.size, 3, none⟩ = some (.slice pr g.rows.length qr) := KT_9.out.cell 3
          have cT_4_9 : w9.cell? ⟨w.heap.size, 4, none⟩ = some (.bool g.off) := KT_9.out.cell 4
          have lX_9 : w4.heap.size < w9.heap.size := KX_9.out.lt
          have cX_0_9 : w9.cell? ⟨w4.heap.size, 0, none⟩ = some (.string x.name) := KX_9.out.cell 0
          have cX_1_9 : w9.cell? ⟨w4.heap.size, 1, none⟩ = some (.int .i64 x.op) := KX_9.out.cell 1
          have cX_2_9 : w9.cell? ⟨w4.heap.size, 2, none⟩ = some (.slice xu x.ins.length xk) := KX_9.out.cell 2
          have cX_3_9 : w9.cell? ⟨w4.heap.size, 3, none⟩ = some (.slice xp x.rows.length xm) := KX_9.out.cell 3
          have cX_4_9 : w9.cell? ⟨w4.heap.size, 4, none⟩ = some (.bool x.off) := KX_9.out.cell 4
          have lO_9 : w6.heap.size + 1 < w9.heap.size := KO_9.out.lt
          have cO_0_9 : w9.cell? ⟨w6.heap.size + 1, 0, none⟩ = some (.string g.name) := KO_9.out.cell 0
          have cO_1_9 : w9.cell? ⟨w6.heap.size + 1, 1, none⟩ = some (.int .i64 g.op) := KO_9.out.cell 1
          have cO_2_9 : w9.cell? ⟨w6.heap.size + 1, 2, none⟩ = some (.slice (some ⟨w6.heap.size, 0, none⟩) 1 1) := KO_9.out.cell 2
          have cO_3_9 : w9.cell? ⟨w6.heap.size + 1, 3, none⟩ = some (.slice none 0 0) := KO_9.out.cell 3
          have cO_4_9 : w9.cell? ⟨w6.heap.size + 1, 4, none⟩ = some (.bool false) := KO_9.out.cell 4
          go_wp2_with fail
          clear lT_9 cT_0_9 cT_1_9 cT_2_9 cT_3_9 cT_4_9 lX_9 cX_0_9 cX_1_9 cX_2_9 cX_3_9 cX_4_9 lO_9 cO_0_9 cO_1_9 cO_2_9 cO_3_9 cO_4_9
          refine (gate_bx x _ _ true _ XI_9.out XR_9.out (HXF.out HF.out) HXW.out HXQ.out).mono ?_
          rintro e w10 ⟨rfl, b10⟩
          have I_10 := Lib.hid (I_9.out.below b10)
          clear I_9
          have R_10 := Lib.hid (R_9.out.below b10)
          clear R_9
          have XI_10 := Lib.hid (XI_9.out.below b10)
          clear XI_9
          have XR_10 := Lib.hid (XR_9.out.below b10)
          clear XR_9
          have KT_10 := Lib.hid (KT_9.out.below b10 KT_9.out.lt)
          clear KT_9
          have KX_10 := Lib.hid (KX_9.out.below b10 KX_9.out.lt)
          clear KX_9
          have Kp_10 := Lib.hid (Kp_9.out.below b10 Kp_9.out.lt)
          clear Kp_9
          have KO_10 := Lib.hid (KO_9.out.below b10 KO_9.out.lt)
          clear KO_9
          have B_10 := Lib.hid (B_9.out.trans (b10.mono B_9.out.size))
          clear B_9
          clear b10
          have lT_10 : w.heap.size < w10.heap.size := KT_10.out.lt
          have cT_0_10 : w10.cell? ⟨w.heap.size, 0, none⟩ = some (.string g.name) := KT_10.out.cell 0
          have cT_1_10 : w10.cell? ⟨w.heap.size, 1, none⟩ = some (.int .i64 g.op) := KT_10.out.cell 1
          have cT_2_10 : w10.cell? ⟨w.heap.size, 2, none⟩ = some (.slice pi g.ins.length qi) := KT_10.out.cell 2
          have cT_3_10 : w10.cell? ⟨w.heap.size, 3, none⟩ = some (.slice pr g.rows.length qr) := KT_10.out.cell 3
          have cT_4_10 : w10.cell? ⟨w.heap.size, 4, none⟩ = some (.bool g.off) := KT_10.out.cell 4
          have lX_10 : w4.heap.size < w10.heap.size := KX_10.out.lt
          have cX_0_10 : w10.cell? ⟨w4.heap.size, 0, none⟩ = some (.string x.name) := KX_10.out.cell 0
          have cX_1_10 : w10.cell? ⟨w4.heap.size, 1, none⟩ = some (.int .i64 x.op) := KX_10.out.cell 1
          have cX_2_10 : w10.cell? ⟨w4.heap.size, 2, none⟩ = some (.slice xu x.ins.length xk) := KX_10.out.cell 2
          have cX_3_10 : w10.cell? ⟨w4.heap.size, 3, none⟩ = some (.slice xp x.rows.length xm) := KX_10.out.cell 3
          have cX_4_10 : w10.cell? ⟨w4.heap.size, 4, none⟩ = some (.bool x.off) := KX_10.out.cell 4
          have lO_10 : w6.heap.size + 1 < w10.heap.size := KO_10.out.lt
          have cO_0_10 : w10.cell? ⟨w6.heap.size + 1, 0, none⟩ = some (.string g.name) := KO_10.out.cell 0
          have cO_1_10 : w10.cell? ⟨w6.heap.size + 1, 1, none⟩ = some (.int .i64 g.op) := KO_10.out.cell 1
          have cO_2_10 : w10.cell? ⟨w6.heap.size + 1, 2, none⟩ = some (.slice (some ⟨w6.heap.size, 0, none⟩) 1 1) := KO_10.out.cell 2
          have cO_3_10 : w10.cell? ⟨w6.heap.size + 1, 3, none⟩ = some (.slice none 0 0) := KO_10.out.cell 3
          have cO_4_10 : w10.cell? ⟨w6.heap.size + 1, 4, none⟩ = some (.bool false) := KO_10.out.cell 4
          go_wp2_with fail
          clear lT_10 cT_0_10 cT_1_10 cT_2_10 cT_3_10 cT_4_10 lX_10 cX_0_10 cX_1_10 cX_2_10 cX_3_10 cX_4_10 lO_10 cO_0_10 cO_1_10 cO_2_10 cO_3_10 cO_4_10
          refine (canon_one1 g y _ _ _ (inn_blk (l := [⟨#[97]⟩]) Kp_10.out rfl (by decide) (by decide)) Inn.none HF.out HW.out HY.out).mono ?_
          rintro e w11 ⟨ou, ok, op, om, rfl, ⟨oi, or', ow⟩, b11⟩
          have I_11 := Lib.hid (I_10.out.below b11)
          clear I_10
          have R_11 := Lib.hid (R_10.out.below b11)
          clear R_10
          have XI_11 := Lib.hid (XI_10.out.below b11)
          clear XI_10
          have XR_11 := Lib.hid (XR_10.out.below b11)
          clear XR_10
          have KT_11 := Lib.hid (KT_10.out.below b11 KT_10.out.lt)
          clear KT_10
          have KX_11 := Lib.hid (KX_10.out.below b11 KX_10.out.lt)
          clear KX_10
          have Kp_11 := Lib.hid (Kp_10.out.below b11 Kp_10.out.lt)
          clear Kp_10
          have KO_11 := Lib.hid (KO_10.out.below b11 KO_10.out.lt)
          clear KO_10
          have B_11 := Lib.hid (B_10.out.trans (b11.mono B_10.out.size))
          clear B_10
          clear b11
          go_wp2_with fail
          refine (gate_bx y _ _ true _ oi or' (HYF.out HF.out) ow HYG2.out).mono ?_
          rintro e w12 ⟨rfl, b9⟩
          have I_12 := Lib.hid (I_11.out.below b9)
          clear I_11
          have R_12 := Lib.hid (R_11.out.below b9)
          clear R_11
          have XI_12 := Lib.hid (XI_11.out.below b9)
          clear XI_11
          have XR_12 := Lib.hid (XR_11.out.below b9)
          clear XR_11
          have KT_12 := Lib.hid (KT_11.out.below b9 KT_11.out.lt)
          clear KT_11
          have KX_12 := Lib.hid (KX_11.out.below b9 KX_11.out.lt)
          clear KX_11
          have Kp_12 := Lib.hid (Kp_11.out.below b9 Kp_11.out.lt)
          clear Kp_11
          have KO_12 := Lib.hid (KO_11.out.below b9 KO_11.out.lt)
          clear KO_11
          have B_12 := Lib.hid (B_11.out.trans (b9.mono B_11.out.size))
          clear B_11
          clear b9 oi or' ow
          go_wp2
          go_ret
          exact ⟨rfl, B_12.out⟩
      · go_wp2_with fail
        clear lT_6 cT_0_6 cT_1_6 cT_2_6 cT_3_6 cT_4_6 lX_6 cX_0_6 cX_1_6 cX_2_6 cX_3_6 cX_4_6
        have a3 : Below w6.heap.size w6 ((w6.alloc (.cells #[.string ⟨#[97]⟩] 9)).alloc (.cells #[.string g.name, .int .i64 g.op, .slice (some ⟨w6.heap.size, 0, none⟩) 1 1, .slice none 0 0, .bool false] 39)) := (((Below.refl w6.heap.size w6).alloc (by first | exact Nat.le_refl _ | (simp only [World.size_alloc]; omega)) (.cells #[.string ⟨#[97]⟩] 9)).alloc (by first | exact Nat.le_refl _ | (simp only [World.size_alloc]; omega)) (.cells #[.string g.name, .int .i64 g.op, .slice (some ⟨w6.heap.size, 0, none⟩) 1 1, .slice none 0 0, .bool false] 39))
        have p_new6 := ((Blk.new w6 #[.string ⟨#[97]⟩] 9).alloc (.cells #[.string g.name, .int .i64 g.op, .slice (some ⟨w6.heap.size, 0, none⟩) 1 1, .slice none 0 0, .bool false] 39))
        have Kp_06 := Lib.hid p_new6
        clear p_new6
        have O_new6 := (Blk.new (w6.alloc (.cells #[.string ⟨#[97]⟩] 9)) #[.string g.name, .int .i64 g.op, .slice (some ⟨w6.heap.size, 0, none⟩) 1 1, .slice none 0 0, .bool false] 39)
        rw [World.size_alloc] at O_new6
        have KO_06 := Lib.hid O_new6
        clear O_new6
        have I_7 := Lib.hid (I_6.out.below a3)
        clear I_6
        have R_7 := Lib.hid (R_6.out.below a3)
        clear R_6
        have XI_7 := Lib.hid (XI_6.out.below a3)
        clear XI_6
        have XR_7 := Lib.hid (XR_6.out.below a3)
        clear XR_6
        have KT_7 := Lib.hid (KT_6.out.below a3 KT_6.out.lt)
        clear KT_6
        have KX_7 := Lib.hid (KX_6.out.below a3 KX_6.out.lt)
        clear KX_6
        have B_7 := Lib.hid (B_6.out.trans (a3.mono B_6.out.size))
        clear B_6
        clear a3
        generalize ((w6.alloc (.cells #[.string ⟨#[97]⟩] 9)).alloc (.cells #[.string g.name, .int .i64 g.op, .slice (some ⟨w6.heap.size, 0, none⟩) 1 1, .slice none 0 0, .bool false] 39)) = w7 at I_7 R_7 XI_7 XR_7 KT_7 KX_7 Kp_06 KO_06 B_7 ⊢
        refine (texts_same x.ins g.ins _ _ _ HXI.out (by rw [HXI.out]; have := (fewgB_get HF.out).1.1; omega) XI_7.out.lst I_7.out.lst).mono ?_
        rintro e w8 ⟨rfl, b8⟩
        have I_8 := Lib.hid (I_7.out.below b8)
        clear I_7
        have R_8 := Lib.hid (R_7.out.below b8)
        clear R_7
        have XI_8 := Lib.hid (XI_7.out.below b8)
        clear XI_7
        have XR_8 := Lib.hid (XR_7.out.below b8)
        clear XR_7
        have KT_8 := Lib.hid (KT_7.out.below b8 KT_7.out.lt)
        clear KT_7
        have KX_8 := Lib.hid (KX_7.out.below b8 KX_7.out.lt)
        clear KX_7
        have Kp_8 := Lib.hid (Kp_06.out.below b8 Kp_06.out.lt)
        clear Kp_06
        have KO_8 := Lib.hid (KO_06.out.below b8 KO_06.out.lt)
        clear KO_06
        have B_8 := Lib.hid (B_7.out.trans (b8.mono B_7.out.size))
        clear B_7
        clear b8
        have lT_8 : w.heap.size < w8.heap.size := KT_8.out.lt
        have cT_0_8 : w8.cell? ⟨w.heap.size, 0, none⟩ = some (.string g.name) := KT_8.out.cell 0
        have cT_1_8 : w8.cell? ⟨w.heap.size, 1, none⟩ = some (.int .i64 g.op) := KT_8.out.cell 1
        have cT_2_8 : w8.cell? ⟨w.heap.size, 2, none⟩ = some (.slice pi g.ins.length qi) := KT_8.out.cell 2
        have cT_3_8 : w8.cell? ⟨w.heap.size, 3, none⟩ = some (.slice pr g.rows.length qr) := KT_8.out.cell 3
        have cT_4_8 : w8.cell? ⟨w.heap.size, 4, none⟩ = some (.bool g.off) := KT_8.out.cell 4
        have lX_8 : w4.heap.size < w8.heap.size := KX_8.out.lt
        have cX_0_8 : w8.cell? ⟨w4.heap.size, 0, none⟩ = some (.string x.name) := KX_8.out.cell 0
        have cX_1_8 : w8.cell? ⟨w4.heap.size, 1, none⟩ = some (.int .i64 x.op) := KX_8.out.cell 1
        have cX_2_8 : w8.cell? ⟨w4.heap.size, 2, none⟩ = some (.slice xu x.ins.length xk) := KX_8.out.cell 2
        have cX_3_8 : w8.cell? ⟨w4.heap.size, 3, none⟩ = some (.slice xp x.rows.length xm) := KX_8.out.cell 3
        have cX_4_8 : w8.cell? ⟨w4.heap.size, 4, none⟩ = some (.bool x.off) := KX_8.out.cell 4
        have lO_8 : w6.heap.size + 1 < w8.heap.size := KO_8.out.lt
        have cO_0_8 : w8.cell? ⟨w6.heap.size + 1, 0, none⟩ = some (.string g.name) := KO_8.out.cell 0
        have cO_1_8 : w8.cell? ⟨w6.heap.size + 1, 1, none⟩ = some (.int .i64 g.op) := KO_8.out.cell 1
        have cO_2_8 : w8.cell? ⟨w6.heap.size + 1, 2, none⟩ = some (.slice (some ⟨w6.heap.size, 0, none⟩) 1 1) := KO_8.out.cell 2
        have cO_3_8 : w8.cell? ⟨w6.heap.size + 1, 3, none⟩ = some (.slice none 0 0) := KO_8.out.cell 3
        have cO_4_8 : w8.cell? ⟨w6.heap.size + 1, 4, none⟩ = some (.bool false) := KO_8.out.cell 4
        go_wp2_with fail
        clear lT_8 cT_0_8 cT_1_8 cT_2_8 cT_3_8 cT_4_8 lX_8 cX_0_8 cX_1_8 cX_2_8 cX_3_8 cX_4_8 lO_8 cO_0_8 cO_1_8 cO_2_8 cO_3_8 cO_4_8
        refine (gate_bx g _ _ q _ I_8.out R_8.out HF.out HW.out HQ.out).mono ?_
        rintro e w9 ⟨rfl, b9⟩
        have I_9 := Lib.hid (I_8.out.below b9)
        clear I_8
        have R_9 := Lib.hid (R_8.out.below b9)
        clear R_8
        have XI_9 := Lib.hid (XI_8.out.below b9)
        clear XI_8
        have XR_9 := Lib.hid (XR_8.out.below b9)
        clear XR_8
        have KT_9 := Lib.hid (KT_8.out.below b9 KT_8.out.lt)
        clear KT_8
        have KX_9 := Lib.hid (KX_8.out.below b9 KX_8.out.lt)
        clear KX_8
        have Kp_9 := Lib.hid (Kp_8.out.below b9 Kp_8.out.lt)
        clear Kp_8
        have KO_9 := Lib.hid (KO_8.out.below b9 KO_8.out.lt)
        clear KO_8
        have B_9 := Lib.hid (B_8.out.trans (b9.mono B_8.out.size))
        clear B_8
        clear b9
        cases q
        · have lT_9 : w.heap.size < w9.heap.size := KT_9.out.lt
          have cT_0_9 : w9.cell? ⟨w.heap.size, 0, none⟩ = some (.string g.name) := KT_9.out.cell 0
          have cT_1_9 : w9.cell? ⟨w.heap.size, 1, none⟩ = some (.int .i64 g.op) := KT_9.out.cell 1
          have cT_2_9 : w9.cell? ⟨w.heap.size, 2, none⟩ = some (.slice pi g.ins.length qi) := KT_9.out.cell 2
          have cT_3_9 : w9.cell? ⟨w.heap.size, 3, none⟩ = some (.slice pr g.rows.length qr) := KT_9.out.cell 3
          have cT_4_9 : w9.cell? ⟨w.heap.size, 4, none⟩ = some (.bool g.off) := KT_9.out.cell 4
          have lX_9 : w4.heap.size < w9.heap.size := KX_9.out.lt
          have cX_0_9 : w9.cell? ⟨w4.heap.size, 0, none⟩ = some (.string x.name) := KX_9.out.cell 0
          have cX_1_9 : w9.cell? ⟨w4.heap.size, 1, none⟩ = some (.int .i64 x.op) := KX_9.out.cell 1
          have cX_2_9 : w9.cell? ⟨w4.heap.size, 2, none⟩ = some (.slice xu x.ins.length xk) := KX_9.out.cell 2
          have cX_3_9 : w9.cell? ⟨w4.heap.size, 3, none⟩ = some (.slice xp x.rows.length xm) := KX_9.out.cell 3
          have cX_4_9 : w9.cell? ⟨w4.heap.size, 4, none⟩ = some (.bool x.off) := KX_9.out.cell 4
          have lO_9 : w6.heap.size + 1 < w9.heap.size := KO_9.out.lt
          have cO_0_9 : w9.cell? ⟨w6.heap.size + 1, 0, none⟩ = some (.string g.name) := KO_9.out.cell 0
          have cO_1_9 : w9.cell? ⟨w6.heap.size + 1, 1, none⟩ = some (.int .i64 g.op) := KO_9.out.cell 1
          have cO_2_9 : w9.cell? ⟨w6.heap.size + 1, 2, none⟩ = some (.slice (some ⟨w6.heap.size, 0, none⟩) 1 1) := KO_9.out.cell 2
          have cO_3_9 : w9.cell? ⟨w6.heap.size + 1, 3, none⟩ = some (.slice none 0 0) := KO_9.out.cell 3
          have cO_4_9 : w9.cell? ⟨w6.heap.size + 1, 4, none⟩ = some (.bool false) := KO_9.out.cell 4
          go_wp2
          go_ret
          exact ⟨rfl, B_9.out⟩
        · have HXQ := Lib.hid (HXG.out HQ.out)
          have lT_9 : w.heap.size < w9.heap.size := KT_9.out.lt
          have cT_0_9 : w9.cell? ⟨w.heap.size, 0, none⟩ = some (.string g.name) := KT_9.out.cell 0
          have cT_1_9 : w9.cell? ⟨w.heap.size, 1, none⟩ = some (.int .i64 g.op) := KT_9.out.cell 1
          have cT_2_9 : w9.cell? ⟨w.heap.size, 2, none⟩ = some (.slice pi g.ins.length qi) := KT_9.out.cell 2
          have cT_3_9 : w9.cell? ⟨w.heap.size, 3, none⟩ = some (.slice pr g.rows.length qr) := KT_9.out.cell 3
          have cT_4_9 : w9.cell? ⟨w.heap.size, 4, none⟩ = some (.bool g.off) := KT_9.out.cell 4
          have lX_9 : w4.heap.size < w9.heap.size := KX_9.out.lt
          have cX_0_9 : w9.cell? ⟨w4.heap.size, 0, none⟩ = some (.string x.name) := KX_9.out.cell 0
          have cX_1_9 : w9.cell? ⟨w4.heap.size, 1, none⟩ = some (.int .i64 x.op) := KX_9.out.cell 1
          have cX_2_9 : w9.cell? ⟨w4.heap.size, 2, none⟩ = some (.slice xu x.ins.length xk) := KX_9.out.cell 2
          have cX_3_9 : w9.cell? ⟨w4.heap.size, 3, none⟩ = some (.slice xp x.rows.length xm) := KX_9.out.cell 3
          have cX_4_9 : w9.cell? ⟨w4.heap.size, 4, none⟩ = some (.bool x.off) := KX_9.out.cell 4
          have lO_9 : w6.heap.size + 1 < w9.heap.size := KO_9.out.lt
          have cO_0_9 : w9.cell? ⟨w6.heap.size + 1, 0, none⟩ = some (.string g.name) := KO_9.out.cell 0
          have cO_1_9 : w9.cell? ⟨w6.heap.size + 1, 1, none⟩ = some (.int .i64 g.op) := KO_9.out.cell 1
          have cO_2_9 : w9.cell? ⟨w6.heap.size + 1, 2, none⟩ = some (.slice (some ⟨w6.heap.size, 0, none⟩) 1 1) := KO_9.out.cell 2
          have cO_3_9 : w9.cell? ⟨w6.heap.size + 1, 3, none⟩ = some (.slice none 0 0) := KO_9.out.cell 3
          have cO_4_9 : w9.cell? ⟨w6.heap.size + 1, 4, none⟩ = some (.bool false) := KO_9.out.cell 4
          go_wp2_with fail
          clear lT_9 cT_0_9 cT_1_9 cT_2_9 cT_3_9 cT_4_9 lX_9 cX_0_9 cX_1_9 cX_2_9 cX_3_9 cX_4_9 lO_9 cO_0_9 cO_1_9 cO_2_9 cO_3_9 cO_4_9
          refine (gate_bx x _ _ true _ XI_9.out XR_9.out (HXF.out HF.out) HXW.out HXQ.out).mono ?_
          rintro e w10 ⟨rfl, b10⟩
          have I_10 := Lib.hid (I_9.out.below b10)
          clear I_9
          have R_10 := Lib.hid (R_9.out.below b10)
          clear R_9
          have XI_10 := Lib.hid (XI_9.out.below b10)
          clear XI_9
          have XR_10 := Lib.hid (XR_9.out.below b10)
          clear XR_9
          have KT_10 := Lib.hid (KT_9.out.below b10 KT_9.out.lt)
          clear KT_9
          have KX_10 := Lib.hid (KX_9.out.below b10 KX_9.out.lt)
          clear KX_9
          have Kp_10 := Lib.hid (Kp_9.out.below b10 Kp_9.out.lt)
          clear Kp_9
          have KO_10 := Lib.hid (KO_9.out.below b10 KO_9.out.lt)
          clear KO_9
          have B_10 := Lib.hid (B_9.out.trans (b10.mono B_9.out.size))
          clear B_9
          clear b10
          have lT_10 : w.heap.size < w10.heap.size := KT_10.out.lt
          have cT_0_10 : w10.cell? ⟨w.heap.size, 0, none⟩ = some (.string g.name) := KT_10.out.cell 0
          have cT_1_10 : w10.cell? ⟨w.heap.size, 1, none⟩ = some (.int .i64 g.op) := KT_10.out.cell 1
          have cT_2_10 : w10.cell? ⟨w.heap.size, 2, none⟩ = some (.slice pi g.ins.length qi) := KT_10.out.cell 2
          have cT_3_10 : w10.cell? ⟨w.heap.size, 3, none⟩ = some (.slice pr g.rows.length qr) := KT_10.out.cell 3
          have cT_4_10 : w10.cell? ⟨w.heap.size, 4, none⟩ = some (.bool g.off) := KT_10.out.cell 4
          have lX_10 : w4.heap.size < w10.heap.size := KX_10.out.lt
          have cX_0_10 : w10.cell? ⟨w4.heap.size, 0, none⟩ = some (.string x.name) := KX_10.out.cell 0
          have cX_1_10 : w10.cell? ⟨w4.heap.size, 1, none⟩ = some (.int .i64 x.op) := KX_10.out.cell 1
          have cX_2_10 : w10.cell? ⟨w4.heap.size, 2, none⟩ = some (.slice xu x.ins.length xk) := KX_10.out.cell 2
          have cX_3_10 : w10.cell? ⟨w4.heap.size, 3, none⟩ = some (.slice xp x.rows.length xm) := KX_10.out.cell 3
          have cX_4_10 : w10.cell? ⟨w4.heap.size, 4, none⟩ = some (.bool x.off) := KX_10.out.cell 4
          have lO_10 : w6.heap.size + 1 < w10.heap.size := KO_10.out.lt
          have cO_0_10 : w10.cell? ⟨w6.heap.size + 1, 0, none⟩ = some (.string g.name) := KO_10.out.cell 0
          have cO_1_10 : w10.cell? ⟨w6.heap.size + 1, 1, none⟩ = some (.int .i64 g.op) := KO_10.out.cell 1
          have cO_2_10 : w10.cell? ⟨w6.heap.size + 1, 2, none⟩ = some (.slice (some ⟨w6.heap.size, 0, none⟩) 1 1) := KO_10.out.cell 2
          have cO_3_10 : w10.cell? ⟨w6.heap.size + 1, 3, none⟩ = some (.slice none 0 0) := KO_10.out.cell 3
          have cO_4_10 : w10.cell? ⟨w6.heap.size + 1, 4, none⟩ = some (.bool false) := KO_10.out.cell 4
          go_wp2
          go_ret
          exact ⟨rfl, B_10.out⟩
    · go_wp2_with fail
      clear lT_6 cT_0_6 cT_1_6 cT_2_6 cT_3_6 cT_4_6 lX_6 cX_0_6 cX_1_6 cX_2_6 cX_3_6 cX_4_6
      have a3 : Below w6.heap.size w6 ((w6.alloc (.cells #[.string ⟨#[97]⟩] 9)).alloc (.cells #[.string g.name, .int .i64 g.op, .slice (some ⟨w6.heap.size, 0, none⟩) 1 1, .slice none 0 0, .bool false] 39)) := (((Below.refl w6.heap.size w6).alloc (by first | exact Nat.le_refl _ | (simp only [World.size_alloc]; omega)) (.cells #[.string ⟨#[97]⟩] 9)).alloc (by first | exact Nat.le_refl _ | (simp only [World.size_alloc]; omega)) (.cells #[.string g.name, .int .i64 g.op, .slice (some ⟨w6.heap.size, 0, none⟩) 1 1, .slice none 0 0, .bool false] 39))
      have p_new6 := ((Blk.new w6 #[.string ⟨#[97]⟩] 9).alloc (.cells #[.string g.name, .int .i64 g.op, .slice (some ⟨w6.heap.size, 0, none⟩) 1 1, .slice none 0 0, .bool false] 39))
      have Kp_06 := Lib.hid p_new6
      clear p_new6
      have O_new6 := (Blk.new (w6.alloc (.cells #[.string ⟨#[97]⟩] 9)) #[.string g.name, .int .i64 g.op, .slice (some ⟨w6.heap.size, 0, none⟩) 1 1, .slice none 0 0, .bool false] 39)
      rw [World.size_alloc] at O_new6
      have KO_06 := Lib.hid O_new6
      clear O_new6
      have I_7 := Lib.hid (I_6.out.below a3)
      clear I_6
      have R_7 := Lib.hid (R_6.out.below a3)
      clear R_6
      have XI_7 := Lib.hid (XI_6.out.below a3)
      clear XI_6
      have XR_7 := Lib.hid (XR_6.out.below a3)
      clear XR_6
      have KT_7 := Lib.hid (KT_6.out.below a3 KT_6.out.lt)
      clear KT_6
      have KX_7 := Lib.hid (KX_6.out.below a3 KX_6.out.lt)
      clear KX_6
      have B_7 := Lib.hid (B_6.out.trans (a3.mono B_6.out.size))
      clear B_6
      clear a3
      generalize ((w6.alloc (.cells #[.string ⟨#[97]⟩] 9)).alloc (.cells #[.string g.name, .int .i64 g.op, .slice (some ⟨w6.heap.size, 0, none⟩) 1 1, .slice none 0 0, .bool false] 39)) = w7 at I_7 R_7 XI_7 XR_7 KT_7 KX_7 Kp_06 KO_06 B_7 ⊢
      refine (texts_same x.ins g.ins _ _ _ HXI.out (by rw [HXI.out]; have := (fewgB_get HF.out).1.1; omega) XI_7.out.lst I_7.out.lst).mono ?_
      rintro e w8 ⟨rfl, b8⟩
      have I_8 := Lib.hid (I_7.out.below b8)
      clear I_7
      have R_8 := Lib.hid (R_7.out.below b8)
      clear R_7
      have XI_8 := Lib.hid (XI_7.out.below b8)
      clear XI_7
      have XR_8 := Lib.hid (XR_7.out.below b8)
      clear XR_7
      have KT_8 := Lib.hid (KT_7.out.below b8 KT_7.out.lt)
      clear KT_7
      have KX_8 := Lib.hid (KX_7.out.below b8 KX_7.out.lt)
      clear KX_7
      have Kp_8 := Lib.hid (Kp_06.out.below b8 Kp_06.out.lt)
      clear Kp_06
      have KO_8 := Lib.hid (KO_06.out.below b8 KO_06.out.lt)
      clear KO_06
      have B_8 := Lib.hid (B_7.out.trans (b8.mono B_7.out.size))
      clear B_7
      clear b8
      have lT_8 : w.heap.size < w8.heap.size := KT_8.out.lt
      have cT_0_8 : w8.cell? ⟨w.heap.size, 0, none⟩ = some (.string g.name) := KT_8.out.cell 0
      have cT_1_8 : w8.cell? ⟨w.heap.size, 1, none⟩ = some (.int .i64 g.op) := KT_8.out.cell 1
      have cT_2_8 : w8.cell? ⟨w.heap.size, 2, none⟩ = some (.slice pi g.ins.length qi) := KT_8.out.cell 2
      have cT_3_8 : w8.cell? ⟨w.heap.size, 3, none⟩ = some (.slice pr g.rows.length qr) := KT_8.out.cell 3
      have cT_4_8 : w8.cell? ⟨w.heap.size, 4, none⟩ = some (.bool g.off) := KT_8.out.cell 4
      have lX_8 : w4.heap.size < w8.heap.size := KX_8.out.lt
      have cX_0_8 : w8.cell? ⟨w4.heap.size, 0, none⟩ = some (.string x.name) := KX_8.out.cell 0
      have cX_1_8 : w8.cell? ⟨w4.heap.size, 1, none⟩ = some (.int .i64 x.op) := KX_8.out.cell 1
      have cX_2_8 : w8.cell? ⟨w4.heap.size, 2, none⟩ = some (.slice xu x.ins.length xk) := KX_8.out.cell 2
      have cX_3_8 : w8.cell? ⟨w4.heap.size, 3, none⟩ = some (.slice xp x.rows.length xm) := KX_8.out.cell 3
      have cX_4_8 : w8.cell? ⟨w4.heap.size, 4, none⟩ = some (.bool x.off) := KX_8.out.cell 4
      have lO_8 : w6.heap.size + 1 < w8.heap.size := KO_8.out.lt
      have cO_0_8 : w8.cell? ⟨w6.heap.size + 1, 0, none⟩ = some (.string g.name) := KO_8.out.cell 0
      have cO_1_8 : w8.cell? ⟨w6.heap.size + 1, 1, none⟩ = some (.int .i64 g.op) := KO_8.out.cell 1
      have cO_2_8 : w8.cell? ⟨w6.heap.size + 1, 2, none⟩ = some (.slice (some ⟨w6.heap.size, 0, none⟩) 1 1) := KO_8.out.cell 2
      have cO_3_8 : w8.cell? ⟨w6.heap.size + 1, 3, none⟩ = some (.slice none 0 0) := KO_8.out.cell 3
      have cO_4_8 : w8.cell? ⟨w6.heap.size + 1, 4, none⟩ = some (.bool false) := KO_8.out.cell 4
      go_wp2_with fail
      clear lT_8 cT_0_8 cT_1_8 cT_2_8 cT_3_8 cT_4_8 lX_8 cX_0_8 cX_1_8 cX_2_8 cX_3_8 cX_4_8 lO_8 cO_0_8 cO_1_8 cO_2_8 cO_3_8 cO_4_8
      refine (gate_bx g _ _ q _ I_8.out R_8.out HF.out HW.out HQ.out).mono ?_
      rintro e w9 ⟨rfl, b9⟩
      have I_9 := Lib.hid (I_8.out.below b9)
      clear I_8
      have R_9 := Lib.hid (R_8.out.below b9)
      clear R_8
      have XI_9 := Lib.hid (XI_8.out.below b9)
      clear XI_8
      have XR_9 := Lib.hid (XR_8.out.below b9)
      clear XR_8
      have KT_9 := Lib.hid (KT_8.out.below b9 KT_8.out.lt)
      clear KT_8
      have KX_9 := Lib.hid (KX_8.out.below b9 KX_8.out.lt)
      clear KX_8
      have Kp_9 := Lib.hid (Kp_8.out.below b9 Kp_8.out.lt)
      clear Kp_8
      have KO_9 := Lib.hid (KO_8.out.below b9 KO_8.out.lt)
      clear KO_8
      have B_9 := Lib.hid (B_8.out.trans (b9.mono B_8.out.size))
      clear B_8
      clear b9
      cases q
      · have lT_9 : w.heap.size < w9.heap.size := KT_9.out.lt
        have cT_0_9 : w9.cell? ⟨w.heap.size, 0, none⟩ = some (.string g.name) := KT_9.out.cell 0
        have cT_1_9 : w9.cell? ⟨w.heap.size, 1, none⟩ = some (.int .i64 g.op) := KT_9.out.cell 1
        have cT_2_9 : w9.cell? ⟨w.heap.size, 2, none⟩ = some (.slice pi g.ins.length qi) := KT_9.out.cell 2
        have cT_3_9 : w9.cell? ⟨w.heap.size, 3, none⟩ = some (.slice pr g.rows.length qr) := KT_9.out.cell 3
        have cT_4_9 : w9.cell? ⟨w.heap.size, 4, none⟩ = some (.bool g.off) := KT_9.out.cell 4
        have lX_9 : w4.heap.size < w9.heap.size := KX_9.out.lt
        have cX_0_9 : w9.cell? ⟨w4.heap.size, 0, none⟩ = some (.string x.name) := KX_9.out.cell 0
        have cX_1_9 : w9.cell? ⟨w4.heap.size, 1, none⟩ = some (.int .i64 x.op) := KX_9.out.cell 1
        have cX_2_9 : w9.cell? ⟨w4.heap.size, 2, none⟩ = some (.slice xu x.ins.length xk) := KX_9.out.cell 2
        have cX_3_9 : w9.cell? ⟨w4.heap.size, 3, none⟩ = some (.slice xp x.rows.length xm) := KX_9.out.cell 3
        have cX_4_9 : w9.cell? ⟨w4.heap.size, 4, none⟩ = some (.bool x.off) := KX_9.out.cell 4
        have lO_9 : w6.heap.size + 1 < w9.heap.size := KO_9.out.lt
        have cO_0_9 : w9.cell? ⟨w6.heap.size + 1, 0, none⟩ = some (.string g.name) := KO_9.out.cell 0
        have cO_1_9 : w9.cell? ⟨w6.heap.size + 1, 1, none⟩ = some (.int .i64 g.op) := KO_9.out.cell 1
        have cO_2_9 : w9.cell? ⟨w6.heap.size + 1, 2, none⟩ = some (.slice (some ⟨w6.heap.size, 0, none⟩) 1 1) := KO_9.out.cell 2
        have cO_3_9 : w9.cell? ⟨w6.heap.size + 1, 3, none⟩ = some (.slice none 0 0) := KO_9.out.cell 3
        have cO_4_9 : w9.cell? ⟨w6.heap.size + 1, 4, none⟩ = some (.bool false) := KO_9.out.cell 4
        go_wp2
        go_ret
        exact ⟨rfl, B_9.out⟩
      · have HXQ := Lib.hid (HXG.out HQ.out)
        have lT_9 : w.heap.size < w9.heap.size := KT_9.out.lt
        have cT_0_9 : w9.cell? ⟨w.heap.size, 0, none⟩ = some (.string g.name) := KT_9.out.cell 0
        have cT_1_9 : w9.cell? ⟨w.heap.size, 1, none⟩ = some (.int .i64 g.op) := KT_9.out.cell 1
        have cT_2_9 : w9.cell? ⟨w.heap.size, 2, none⟩ = some (.slice pi g.ins.length qi) := KT_9.out.cell 2
        have cT_3_9 : w9.cell? ⟨w.heap.size, 3, none⟩ = some (.slice pr g.rows.length qr) := KT_9.out.cell 3
        have cT_4_9 : w9.cell? ⟨w.heap.size, 4, none⟩ = some (.bool g.off) := KT_9.out.cell 4
        have lX_9 : w4.heap.size < w9.heap.size := KX_9.out.lt
        have cX_0_9 : w9.cell? ⟨w4.heap.size, 0, none⟩ = some (.string x.name) := KX_9.out.cell 0
        have cX_1_9 : w9.cell? ⟨w4.heap.size, 1, none⟩ = some (.int .i64 x.op) := KX_9.out.cell 1
        have cX_2_9 : w9.cell? ⟨w4.heap.size, 2, none⟩ = some (.slice xu x.ins.length xk) := KX_9.out.cell 2
        have cX_3_9 : w9.cell? ⟨w4.heap.size, 3, none⟩ = some (.slice xp x.rows.length xm) := KX_9.out.cell 3
        have cX_4_9 : w9.cell? ⟨w4.heap.size, 4, none⟩ = some (.bool x.off) := KX_9.out.cell 4
        have lO_9 : w6.heap.size + 1 < w9.heap.size := KO_9.out.lt
        have cO_0_9 : w9.cell? ⟨w6.heap.size + 1, 0, none⟩ = some (.string g.name) := KO_9.out.cell 0
        have cO_1_9 : w9.cell? ⟨w6.heap.size + 1, 1, none⟩ = some (.int .i64 g.op) := KO_9.out.cell 1
        have cO_2_9 : w9.cell? ⟨w6.heap.size + 1, 2, none⟩ = some (.slice (some ⟨w6.heap.size, 0, none⟩) 1 1) := KO_9.out.cell 2
        have cO_3_9 : w9.cell? ⟨w6.heap.size + 1, 3, none⟩ = some (.slice none 0 0) := KO_9.out.cell 3
        have cO_4_9 : w9.cell? ⟨w6.heap.size + 1, 4, none⟩ = some (.bool false) := KO_9.out.cell 4
        go_wp2_with fail
        clear lT_9 cT_0_9 cT_1_9 cT_2_9 cT_3_9 cT_4_9 lX_9 cX_0_9 cX_1_9 cX_2_9 cX_3_9 cX_4_9 lO_9 cO_0_9 cO_1_9 cO_2_9 cO_3_9 cO_4_9
        refine (gate_bx x _ _ true _ XI_9.out XR_9.out (HXF.out HF.out) HXW.out HXQ.out).mono ?_
        rintro e w10 ⟨rfl, b10⟩
        have I_10 := Lib.hid (I_9.out.below b10)
        clear I_9
        have R_10 := Lib.hid (R_9.out.below b10)
        clear R_9
        have XI_10 := Lib.hid (XI_9.out.below b10)
        clear XI_9
        have XR_10 := Lib.hid (XR_9.out.below b10)
        clear XR_9
        have KT_10 := Lib.hid (KT_9.out.below b10 KT_9.out.lt)
        clear KT_9
        have KX_10 := Lib.hid (KX_9.out.below b10 KX_9.out.lt)
        clear KX_9
        have Kp_10 := Lib.hid (Kp_9.out.below b10 Kp_9.out.lt)
        clear Kp_9
        have KO_10 := Lib.hid (KO_9.out.below b10 KO_9.out.lt)
        clear KO_9
        have B_10 := Lib.hid (B_9.out.trans (b10.mono B_9.out.size))
        clear B_9
        clear b10
        have lT_10 : w.heap.size < w10.heap.size := KT_10.out.lt
        have cT_0_10 : w10.cell? ⟨w.heap.size, 0, none⟩ = some (.string g.name) := KT_10.out.cell 0
        have cT_1_10 : w10.cell? ⟨w.heap.size, 1, none⟩ = some (.int .i64 g.op) := KT_10.out.cell 1
        have cT_2_10 : w10.cell? ⟨w.heap.size, 2, none⟩ = some (.slice pi g.ins.length qi) := KT_10.out.cell 2
        have cT_3_10 : w10.cell? ⟨w.heap.size, 3, none⟩ = some (.slice pr g.rows.length qr) := KT_10.out.cell 3
        have cT_4_10 : w10.cell? ⟨w.heap.size, 4, none⟩ = some (.bool g.off) := KT_10.out.cell 4
        have lX_10 : w4.heap.size < w10.heap.size := KX_10.out.lt
        have cX_0_10 : w10.cell? ⟨w4.heap.size, 0, none⟩ = some (.string x.name) := KX_10.out.cell 0
        have cX_1_10 : w10.cell? ⟨w4.heap.size, 1, none⟩ = some (.int .i64 x.op) := KX_10.out.cell 1
        have cX_2_10 : w10.cell? ⟨w4.heap.size, 2, none⟩ = some (.slice xu x.ins.length xk) := KX_10.out.cell 2
        have cX_3_10 : w10.cell? ⟨w4.heap.size, 3, none⟩ = some (.slice xp x.rows.length xm) := KX_10.out.cell 3
        have cX_4_10 : w10.cell? ⟨w4.heap.size, 4, none⟩ = some (.bool x.off) := KX_10.out.cell 4
        have lO_10 : w6.heap.size + 1 < w10.heap.size := KO_10.out.lt
        have cO_0_10 : w10.cell? ⟨w6.heap.size + 1, 0, none⟩ = some (.string g.name) := KO_10.out.cell 0
        have cO_1_10 : w10.cell? ⟨w6.heap.size + 1, 1, none⟩ = some (.int .i64 g.op) := KO_10.out.cell 1
        have cO_2_10 : w10.cell? ⟨w6.heap.size + 1, 2, none⟩ = some (.slice (some ⟨w6.heap.size, 0, none⟩) 1 1) := KO_10.out.cell 2
        have cO_3_10 : w10.cell? ⟨w6.heap.size + 1, 3, none⟩ = some (.slice none 0 0) := KO_10.out.cell 3
        have cO_4_10 : w10.cell? ⟨w6.heap.size + 1, 4, none⟩ = some (.bool false) := KO_10.out.cell 4
        go_wp2
        go_ret
        exact ⟨rfl, B_10.out⟩
end Go.Proofs.YtfkmolbcgnkfdaaDoor
