/- NetCovers: the law's function, for every input. -/
import Derived.Test.YtfkmolbcgnkfdaaDoorCanonLaw
import Derived.Test.YtfkmolbcgnkfdaaDoorCoversP
import Derived.Test.YtfkmolbcgnkfdaaDoorCov
import Derived.DataShut
namespace Go.Proofs.YtfkmolbcgnkfdaaDoor
open Go.RowKit
attribute [local go_sem] Oper.semAt_some
set_option maxRecDepth 100000
set_option maxHeartbeats 4000000
theorem canon_cov (L rows : List ByteArray) (off : Bool) (x : Gt) (vi vr : Value) (w : World) (hi : Inn w vi L) (hr : Inn w vr rows) (hL : fewB L 12 = true) (hR : fewB rows 140 = true) (hq : canonF (cov L rows off) = x) :
    Calls Tryd.prog 25 #[.agg #[.string ⟨#[122]⟩, .int .i64 10, vi, vr, .bool off]] w fun e w' => ∃ (u : Option Addr) (n k : Nat) (p : Option Addr) (m : Nat), e = .returned (.agg #[.string x.name, .int .i64 x.op, .slice u n k, .slice p x.rows.length m, .bool x.off]) ∧ Below w.heap.size w w' := by
  refine (canon_ex (cov L rows off) x vi vr w hi hr (cov_few hL hR) (show (Lit.int .i64 10).wf = true by decide) hq).mono ?_
  rintro e w' ⟨u, k, p, m, rfl, _, hb⟩
  exact ⟨u, _, k, p, m, rfl, hb⟩
theorem canon_covo (L : List ByteArray) (op k : Nat) (vi vr : Value) (w : World) (hi : Inn w vi L) (hr : Inn w vr (rowsS op k).1) (hL : fewB L 12 = true) (hl : L.length = k) (ho : op < 10) (hk : k < 9) (h : (rowsS op k).2.2 = true) (off : Bool) (hoff : (rowsS op k).2.1 = off) :
    Calls Tryd.prog 25 #[.agg #[.string ⟨#[122]⟩, .int .i64 10, vi, vr, .bool off]] w fun e w' => ∃ (u : Option Addr) (n k : Nat) (p : Option Addr) (m : Nat), e = .returned (.agg #[.string ⟨#[122]⟩, .int .i64 (op : Int), .slice u n k, .slice p 0 m, .bool false]) ∧ Below w.heap.size w w' := by
  subst hoff
  have hs := sizeB_all op ho k hk
  have hr2 := rows_same op k ⟨by omega, by omega⟩ (by omega) h
  exact canon_cov L (rowsS op k).1 _ ⟨⟨#[122]⟩, (op : Int), L, [], false⟩ vi vr w hi hr hL (by rw [hr2]; exact hs) (canon_own ho hk hl h)
theorem rows_ex (op n : Nat) (R : List ByteArray) (off ok : Bool) (hop : op < 10) (hn : n < 9) (w : World) (hq : rowsS op n = (R, off, ok)) : Calls Tryd.prog 28 #[.int .i64 (op : Int), .int .i64 (n : Int)] w fun e w' =>
    ∃ V, e = .returned (.tuple #[V, .bool off, .bool ok]) ∧ w'.ownsRow w.heap.size 9 1 V R.length (R.flatMap stc) ∧ Below w.heap.size w w' := by
  have := rows_any op n ⟨by omega, by omega⟩ (by omega) w
  rwa [hq] at this
theorem texts_qx (l m : List ByteArray) (v u : Value) (q : Bool) (w : World) (hl : l.length ≤ 1000) (hm : m.length ≤ 1000) (ht : Lst stc w v l) (hu : Lst stc w u m) (hq : eqL stEq l m = q) :
    Calls Tryd.prog 17 #[v, u] w fun e w' => e = .returned (.bool q) ∧ Below w.heap.size w w' := by
  subst hq
  exact texts_any l m v u w (by omega) (by omega) ht hu
theorem law_covers_in (op m : Nat) (g : Gt) (vi vr : Value) (w : World) (ho : op < 10) (hm : m ≤ 255) (hi : Inn w vi g.ins) (hr : Inn w vr g.rows) (hb : fewgB g = true) :
    Calls Tryd.prog 5 #[.int .i64 (op : Int), .int .u8 (m : Int), .agg #[.string g.name, .int .i64 g.op, vi, vr, .bool g.off]] w fun e w' => e = .returned (.bool true) ∧ Below w.heap.size w w' := by
  have HI := Lib.hid hi
  have HR := Lib.hid hr
  obtain ⟨pi, qi, rfl⟩ := hi.lst.slice
  obtain ⟨pr, qr, rfl⟩ := hr.lst.slice
  clear hi hr
  obtain ⟨k, hk⟩ : ∃ k, m % 9 = k := ⟨_, rfl⟩
  have hk9 : k < 9 := by omega
  have hrem : ((m : Int) % 9) = (k : Int) := by omega
  have hrem2 : Int.tmod (m : Int) 9 = (k : Int) := by rw [Int.tmod_eq_emod_of_nonneg (by omega)]; omega
  obtain ⟨R, off, ok, hR⟩ : ∃ R off ok, rowsS op k = (R, off, ok) := ⟨_, _, _, rfl⟩
  obtain ⟨e1, he1⟩ : ∃ x, eqL stEq g.rows R = x := ⟨_, rfl⟩
  obtain ⟨e2, he2⟩ : ∃ x, (g.off == off) = x := ⟨_, rfl⟩
  obtain ⟨L, hL⟩ : ∃ L, abcL.take k = L := ⟨_, rfl⟩
  have hLl : L.length = k := by rw [← hL, List.length_take]; show min k 8 = k; omega
  have hLf : fewB L 12 = true := by rw [← hL]; exact take_few (by omega)
  obtain ⟨y, hy⟩ : ∃ y, canonF (cov L g.rows g.off) = y := ⟨_, rfl⟩
  have hyo : ok = true → (y.op == (op : Int)) = (e1 && e2) := fun h => by
    rw [← hy]
    have hS : (rowsS op k).2.2 = true := by rw [hR]; exact h
    exact canon_else ho hk9 hLl hS e1 e2 (by rw [hR]; exact he1) (by rw [hR]; exact he2)
  have hRf : ok = true → fewB R 140 = true := fun h => by
    have := rows_same op k ⟨by omega, by omega⟩ (by omega) (by rw [hR]; exact h)
    rw [hR] at this
    have h2 : R = rowsL op k := this
    rw [h2]
    exact sizeB_all op ho k hk9
  have hop1 : ¬ (op : Int) < 0 := by omega
  have hop2 : ¬ 9 < (op : Int) := by omega
  have hk8 : (k : Int) ≤ 8 := by omega
  have hk0 : (0 : Int) ≤ (k : Int) := by omega
  have HB := Lib.hid hb
  have HRR := Lib.hid hR
  have HE1 := Lib.hid he1
  have HE2 := Lib.hid he2
  have HL := Lib.hid hL
  have HLL := Lib.hid hLl
  have HLF := Lib.hid hLf
  have HY := Lib.hid hy
  have HYO := Lib.hid hyo
  have HRF := Lib.hid hRf
  have HK := Lib.hid hk
  clear hb hR he1 he2 hL hLl hLf hy hyo hRf hk
  go_enter Tryd.func5, Tryd.ntmps5
  go_wp2_with fail
  have a1 : Below w.heap.size w (w.alloc (.cells #[.string g.name, .int .i64 g.op, .slice pi g.ins.length qi, .slice pr g.rows.length qr, .bool g.off] 39)) := ((Below.refl w.heap.size w).alloc (by first | exact Nat.le_refl _ | (simp only [World.size_alloc]; omega)) (.cells #[.string g.name, .int .i64 g.op, .slice pi g.ins.length qi, .slice pr g.rows.length qr, .bool g.off] 39))
  have T_new0 := (Blk.new w #[.string g.name, .int .i64 g.op, .slice pi g.ins.length qi, .slice pr g.rows.length qr, .bool g.off] 39)
  have KT_00 := Lib.hid T_new0
  clear T_new0
  have I_1 := Lib.hid (HI.out.below a1)
  clear HI
  have R_1 := Lib.hid (HR.out.below a1)
  clear HR
  have B_1 := Lib.hid a1
  clear a1
  generalize (w.alloc (.cells #[.string g.name, .int .i64 g.op, .slice pi g.ins.length qi, .slice pr g.rows.length qr, .bool g.off] 39)) = w1 at I_1 R_1 KT_00 B_1 ⊢
  refine (works_any _).mono ?_
  rintro e w2 ⟨rfl, b2⟩
  have I_2 := Lib.hid (I_1.out.below b2)
  clear I_1
  have R_2 := Lib.hid (R_1.out.below b2)
  clear R_1
  have KT_2 := Lib.hid (KT_00.out.below b2 KT_00.out.lt)
  clear KT_00
  have B_2 := Lib.hid (B_1.out.trans (b2.mono B_1.out.size))
  clear B_1
  clear b2
  have lT_2 : w.heap.size < w2.heap.size := KT_2.out.lt
  have cT_0_2 : w2.cell? ⟨w.heap.size, 0, none⟩ = some (.string g.name) := KT_2.out.cell 0
  have cT_1_2 : w2.cell? ⟨w.heap.size, 1, none⟩ = some (.int .i64 g.op) := KT_2.out.cell 1
  have cT_2_2 : w2.cell? ⟨w.heap.size, 2, none⟩ = some (.slice pi g.ins.length qi) := KT_2.out.cell 2
  have cT_3_2 : w2.cell? ⟨w.heap.size, 3, none⟩ = some (.slice pr g.rows.length qr) := KT_2.out.cell 3
  have cT_4_2 : w2.cell? ⟨w.heap.size, 4, none⟩ = some (.bool g.off) := KT_2.out.cell 4
  go_wp2_with fail
  clear lT_2 cT_0_2 cT_1_2 cT_2_2 cT_3_2 cT_4_2
  refine (fewg_any g _ _ true _ I_2.out R_2.out HB.out).mono ?_
  rintro e w3 ⟨rfl, b3⟩
  have I_3 := Lib.hid (I_2.out.below b3)
  clear I_2
  have R_3 := Lib.hid (R_2.out.below b3)
  clear R_2
  have KT_3 := Lib.hid (KT_2.out.below b3 KT_2.out.lt)
  clear KT_2
  have B_3 := Lib.hid (B_2.out.trans (b3.mono B_2.out.size))
  clear B_2
  clear b3
  have lT_3 : w.heap.size < w3.heap.size := KT_3.out.lt
  have cT_0_3 : w3.cell? ⟨w.heap.size, 0, none⟩ = some (.string g.name) := KT_3.out.cell 0
  have cT_1_3 : w3.cell? ⟨w.heap.size, 1, none⟩ = some (.int .i64 g.op) := KT_3.out.cell 1
  have cT_2_3 : w3.cell? ⟨w.heap.size, 2, none⟩ = some (.slice pi g.ins.length qi) := KT_3.out.cell 2
  have cT_3_3 : w3.cell? ⟨w.heap.size, 3, none⟩ = some (.slice pr g.rows.length qr) := KT_3.out.cell 3
  have cT_4_3 : w3.cell? ⟨w.heap.size, 4, none⟩ = some (.bool g.off) := KT_3.out.cell 4
  go_wp2_with fail
  clear lT_3 cT_0_3 cT_1_3 cT_2_3 cT_3_3 cT_4_3
  refine (rows_ex op k R off ok ho hk9 _ HRR.out).mono ?_
  rintro e w4 ⟨V, rfl, hv, b4⟩
  have I_4 := Lib.hid (I_3.out.below b4)
  clear I_3
  have R_4 := Lib.hid (R_3.out.below b4)
  clear R_3
  have KT_4 := Lib.hid (KT_3.out.below b4 KT_3.out.lt)
  clear KT_3
  have B_4 := Lib.hid (B_3.out.trans (b4.mono B_3.out.size))
  clear B_3
  clear b4
  obtain ⟨vb, vc, rfl⟩ := row_slice hv
  have V := Lib.hid hv
  clear hv
  cases ok
  · go_wp2
    go_ret
    exact ⟨rfl, B_4.out⟩
  · have HS := Lib.hid (show (rowsS op k).2.2 = true by rw [HRR.out])
    have HS1 := Lib.hid (show (rowsS op k).2.1 = off by rw [HRR.out])
    have HS0 := Lib.hid (show (rowsS op k).1 = R by rw [HRR.out])
    have lT_4 : w.heap.size < w4.heap.size := KT_4.out.lt
    have cT_0_4 : w4.cell? ⟨w.heap.size, 0, none⟩ = some (.string g.name) := KT_4.out.cell 0
    have cT_1_4 : w4.cell? ⟨w.heap.size, 1, none⟩ = some (.int .i64 g.op) := KT_4.out.cell 1
    have cT_2_4 : w4.cell? ⟨w.heap.size, 2, none⟩ = some (.slice pi g.ins.length qi) := KT_4.out.cell 2
    have cT_3_4 : w4.cell? ⟨w.heap.size, 3, none⟩ = some (.slice pr g.rows.length qr) := KT_4.out.cell 3
    have cT_4_4 : w4.cell? ⟨w.heap.size, 4, none⟩ = some (.bool g.off) := KT_4.out.cell 4
    go_wp2_with fail
    clear lT_4 cT_0_4 cT_1_4 cT_2_4 cT_3_4 cT_4_4
    have a2 : Below w4.heap.size w4 (w4.alloc (.cells #[.string ⟨#[97]⟩, .string ⟨#[98]⟩, .string ⟨#[99]⟩, .string ⟨#[100]⟩, .string ⟨#[101]⟩, .string ⟨#[102]⟩, .string ⟨#[103]⟩, .string ⟨#[104]⟩] 9)) := ((Below.refl w4.heap.size w4).alloc (by first | exact Nat.le_refl _ | (simp only [World.size_alloc]; omega)) (.cells #[.string ⟨#[97]⟩, .string ⟨#[98]⟩, .string ⟨#[99]⟩, .string ⟨#[100]⟩, .string ⟨#[101]⟩, .string ⟨#[102]⟩, .string ⟨#[103]⟩, .string ⟨#[104]⟩] 9))
    have p_new4 := (Blk.new w4 #[.string ⟨#[97]⟩, .string ⟨#[98]⟩, .string ⟨#[99]⟩, .string ⟨#[100]⟩, .string ⟨#[101]⟩, .string ⟨#[102]⟩, .string ⟨#[103]⟩, .string ⟨#[104]⟩] 9)
    have Kp_04 := Lib.hid p_new4
    clear p_new4
    have I_5 := Lib.hid (I_4.out.below a2)
    clear I_4
    have R_5 := Lib.hid (R_4.out.below a2)
    clear R_4
    have V_5 := Lib.hid (row_below V.out a2)
    clear V
    have KT_5 := Lib.hid (KT_4.out.below a2 KT_4.out.lt)
    clear KT_4
    have B_5 := Lib.hid (B_4.out.trans (a2.mono B_4.out.size))
    clear B_4
    clear a2
    generalize (w4.alloc (.cells #[.string ⟨#[97]⟩, .string ⟨#[98]⟩, .string ⟨#[99]⟩, .string ⟨#[100]⟩, .string ⟨#[101]⟩, .string ⟨#[102]⟩, .string ⟨#[103]⟩, .string ⟨#[104]⟩] 9)) = w5 at I_5 R_5 V_5 KT_5 Kp_04 B_5 ⊢
    refine (canon_covo L op k _ _ _ (by rw [← HL.out]; exact inn_take Kp_04.out (by omega)) (by rw [HS0.out]; exact (inn_row V_5.out (by have := (fewB_get (HRF.out (by trivial))).1; unfold maxLen; omega) (fun s hs => by have := (fewB_get (HRF.out (by trivial))).2 s hs; unfold maxLen; omega))) HLF.out HLL.out ho hk9 HS.out off HS1.out).mono ?_
    rintro e w6 ⟨xu, xn, xk, xp, xm, rfl, b6⟩
    have I_6 := Lib.hid (I_5.out.below b6)
    clear I_5
    have R_6 := Lib.hid (R_5.out.below b6)
    clear R_5
    have V_6 := Lib.hid (row_below V_5.out b6)
    clear V_5
    have KT_6 := Lib.hid (KT_5.out.below b6 KT_5.out.lt)
    clear KT_5
    have Kp_6 := Lib.hid (Kp_04.out.below b6 Kp_04.out.lt)
    clear Kp_04
    have B_6 := Lib.hid (B_5.out.trans (b6.mono B_5.out.size))
    clear B_5
    clear b6
    have lT_6 : w.heap.size < w6.heap.size := KT_6.out.lt
    have cT_0_6 : w6.cell? ⟨w.heap.size, 0, none⟩ = some (.string g.name) := KT_6.out.cell 0
    have cT_1_6 : w6.cell? ⟨w.heap.size, 1, none⟩ = some (.int .i64 g.op) := KT_6.out.cell 1
    have cT_2_6 : w6.cell? ⟨w.heap.size, 2, none⟩ = some (.slice pi g.ins.length qi) := KT_6.out.cell 2
    have cT_3_6 : w6.cell? ⟨w.heap.size, 3, none⟩ = some (.slice pr g.rows.length qr) := KT_6.out.cell 3
    have cT_4_6 : w6.cell? ⟨w.heap.size, 4, none⟩ = some (.bool g.off) := KT_6.out.cell 4
    go_wp2_with fail
    clear lT_6 cT_0_6 cT_1_6 cT_2_6 cT_3_6 cT_4_6
    have a3 : Below w6.heap.size w6 (w6.alloc (.cells #[.string ⟨#[122]⟩, .int .i64 (op : Int), .slice xu xn xk, .slice xp 0 xm, .bool false] 39)) := ((Below.refl w6.heap.size w6).alloc (by first | exact Nat.le_refl _ | (simp only [World.size_alloc]; omega)) (.cells #[.string ⟨#[122]⟩, .int .i64 (op : Int), .slice xu xn xk, .slice xp 0 xm, .bool false] 39))
    have X_new6 := (Blk.new w6 #[.string ⟨#[122]⟩, .int .i64 (op : Int), .slice xu xn xk, .slice xp 0 xm, .bool false] 39)
    have KX_06 := Lib.hid X_new6
    clear X_new6
    have I_7 := Lib.hid (I_6.out.below a3)
    clear I_6
    have R_7 := Lib.hid (R_6.out.below a3)
    clear R_6
    have V_7 := Lib.hid (row_below V_6.out a3)
    clear V_6
    have KT_7 := Lib.hid (KT_6.out.below a3 KT_6.out.lt)
    clear KT_6
    have Kp_7 := Lib.hid (Kp_6.out.below a3 Kp_6.out.lt)
    clear Kp_6
    have B_7 := Lib.hid (B_6.out.trans (a3.mono B_6.out.size))
    clear B_6
    clear a3
    generalize (w6.alloc (.cells #[.string ⟨#[122]⟩, .int .i64 (op : Int), .slice xu xn xk, .slice xp 0 xm, .bool false] 39)) = w7 at I_7 R_7 V_7 KT_7 Kp_7 KX_06 B_7 ⊢
    refine (canon_cov L g.rows g.off y _ _ _ (by rw [← HL.out]; exact inn_take Kp_7.out (by omega)) R_7.out HLF.out (by have := HB.out; unfold fewgB at this; simp only [Bool.and_eq_true] at this; exact this.2.1) HY.out).mono ?_
    rintro e w8 ⟨yu, yn, yk, yp, ym, rfl, b8⟩
    have I_8 := Lib.hid (I_7.out.below b8)
    clear I_7
    have R_8 := Lib.hid (R_7.out.below b8)
    clear R_7
    have V_8 := Lib.hid (row_below V_7.out b8)
    clear V_7
    have KT_8 := Lib.hid (KT_7.out.below b8 KT_7.out.lt)
    clear KT_7
    have Kp_8 := Lib.hid (Kp_7.out.below b8 Kp_7.out.lt)
    clear Kp_7
    have KX_8 := Lib.hid (KX_06.out.below b8 KX_06.out.lt)
    clear KX_06
    have B_8 := Lib.hid (B_7.out.trans (b8.mono B_7.out.size))
    clear B_7
    clear b8
    have lT_8 : w.heap.size < w8.heap.size := KT_8.out.lt
    have cT_0_8 : w8.cell? ⟨w.heap.size, 0, none⟩ = some (.string g.name) := KT_8.out.cell 0
    have cT_1_8 : w8.cell? ⟨w.heap.size, 1, none⟩ = some (.int .i64 g.op) := KT_8.out.cell 1
    have cT_2_8 : w8.cell? ⟨w.heap.size, 2, none⟩ = some (.slice pi g.ins.length qi) := KT_8.out.cell 2
    have cT_3_8 : w8.cell? ⟨w.heap.size, 3, none⟩ = some (.slice pr g.rows.length qr) := KT_8.out.cell 3
    have cT_4_8 : w8.cell? ⟨w.heap.size, 4, none⟩ = some (.bool g.off) := KT_8.out.cell 4
    have lX_8 : w6.heap.size < w8.heap.size := KX_8.out.lt
    have cX_0_8 : w8.cell? ⟨w6.heap.size, 0, none⟩ = some (.string ⟨#[122]⟩) := KX_8.out.cell 0
    have cX_1_8 : w8.cell? ⟨w6.heap.size, 1, none⟩ = some (.int .i64 (op : Int)) := KX_8.out.cell 1
    have cX_2_8 : w8.cell? ⟨w6.heap.size, 2, none⟩ = some (.slice xu xn xk) := KX_8.out.cell 2
    have cX_3_8 : w8.cell? ⟨w6.heap.size, 3, none⟩ = some (.slice xp 0 xm) := KX_8.out.cell 3
    have cX_4_8 : w8.cell? ⟨w6.heap.size, 4, none⟩ = some (.bool false) := KX_8.out.cell 4
    go_wp2_with fail
    clear lT_8 cT_0_8 cT_1_8 cT_2_8 cT_3_8 cT_4_8 lX_8 cX_0_8 cX_1_8 cX_2_8 cX_3_8 cX_4_8
    have a4 : Below w8.heap.size w8 (w8.alloc (.cells #[.string y.name, .int .i64 y.op, .slice yu yn yk, .slice yp y.rows.length ym, .bool y.off] 39)) := ((Below.refl w8.heap.size w8).alloc (by first | exact Nat.le_refl _ | (simp only [World.size_alloc]; omega)) (.cells #[.string y.name, .int .i64 y.op, .slice yu yn yk, .slice yp y.rows.length ym, .bool y.off] 39))
    have Y_new8 := (Blk.new w8 #[.string y.name, .int .i64 y.op, .slice yu yn yk, .slice yp y.rows.length ym, .bool y.off] 39)
    have KY_08 := Lib.hid Y_new8
    clear Y_new8
    have I_9 := Lib.hid (I_8.out.below a4)
    clear I_8
    have R_9 := Lib.hid (R_8.out.below a4)
    clear R_8
    have V_9 := Lib.hid (row_below V_8.out a4)
    clear V_8
    have KT_9 := Lib.hid (KT_8.out.below a4 KT_8.out.lt)
    clear KT_8
    have Kp_9 := Lib.hid (Kp_8.out.below a4 Kp_8.out.lt)
    clear Kp_8
    have KX_9 := Lib.hid (KX_8.out.below a4 KX_8.out.lt)
    clear KX_8
    have B_9 := Lib.hid (B_8.out.trans (a4.mono B_8.out.size))
    clear B_8
    clear a4
    generalize (w8.alloc (.cells #[.string y.name, .int .i64 y.op, .slice yu yn yk, .slice yp y.rows.length ym, .bool y.off] 39)) = w9 at I_9 R_9 V_9 KT_9 Kp_9 KX_9 KY_08 B_9 ⊢
    refine (texts_qx g.rows R _ _ e1 _ (by have := (fewgB_get HB.out).2.1.1; omega) (by have := (fewB_get (HRF.out (by trivial))).1; omega) R_9.out.lst (Lst.of_row V_9.out) HE1.out).mono ?_
    rintro e w10 ⟨rfl, b10⟩
    have I_10 := Lib.hid (I_9.out.below b10)
    clear I_9
    have R_10 := Lib.hid (R_9.out.below b10)
    clear R_9
    have V_10 := Lib.hid (row_below V_9.out b10)
    clear V_9
    have KT_10 := Lib.hid (KT_9.out.below b10 KT_9.out.lt)
    clear KT_9
    have Kp_10 := Lib.hid (Kp_9.out.below b10 Kp_9.out.lt)
    clear Kp_9
    have KX_10 := Lib.hid (KX_9.out.below b10 KX_9.out.lt)
    clear KX_9
    have KY_10 := Lib.hid (KY_08.out.below b10 KY_08.out.lt)
    clear KY_08
    have B_10 := Lib.hid (B_9.out.trans (b10.mono B_9.out.size))
    clear B_9
    clear b10
    have hyo := HYO.out (by trivial)
    have he2 := HE2.out
    have lT_10 : w.heap.size < w10.heap.size := KT_10.out.lt
    have cT_0_10 : w10.cell? ⟨w.heap.size, 0, none⟩ = some (.string g.name) := KT_10.out.cell 0
    have cT_1_10 : w10.cell? ⟨w.heap.size, 1, none⟩ = some (.int .i64 g.op) := KT_10.out.cell 1
    have cT_2_10 : w10.cell? ⟨w.heap.size, 2, none⟩ = some (.slice pi g.ins.length qi) := KT_10.out.cell 2
    have cT_3_10 : w10.cell? ⟨w.heap.size, 3, none⟩ = some (.slice pr g.rows.length qr) := KT_10.out.cell 3
    have cT_4_10 : w10.cell? ⟨w.heap.size, 4, none⟩ = some (.bool g.off) := KT_10.out.cell 4
    have lX_10 : w6.heap.size < w10.heap.size := KX_10.out.lt
    have cX_0_10 : w10.cell? ⟨w6.heap.size, 0, none⟩ = some (.string ⟨#[122]⟩) := KX_10.out.cell 0
    have cX_1_10 : w10.cell? ⟨w6.heap.size, 1, none⟩ = some (.int .i64 (op : Int)) := KX_10.out.cell 1
    have cX_2_10 : w10.cell? ⟨w6.heap.size, 2, none⟩ = some (.slice xu xn xk) := KX_10.out.cell 2
    have cX_3_10 : w10.cell? ⟨w6.heap.size, 3, none⟩ = some (.slice xp 0 xm) := KX_10.out.cell 3
    have cX_4_10 : w10.cell? ⟨w6.heap.size, 4, none⟩ = some (.bool false) := KX_10.out.cell 4
    have lY_10 : w8.heap.size < w10.heap.size := KY_10.out.lt
    have cY_0_10 : w10.cell? ⟨w8.heap.size, 0, none⟩ = some (.string y.name) := KY_10.out.cell 0
    have cY_1_10 : w10.cell? ⟨w8.heap.size, 1, none⟩ = some (.int .i64 y.op) := KY_10.out.cell 1
    have cY_2_10 : w10.cell? ⟨w8.heap.size, 2, none⟩ = some (.slice yu yn yk) := KY_10.out.cell 2
    have cY_3_10 : w10.cell? ⟨w8.heap.size, 3, none⟩ = some (.slice yp y.rows.length ym) := KY_10.out.cell 3
    have cY_4_10 : w10.cell? ⟨w8.heap.size, 4, none⟩ = some (.bool y.off) := KY_10.out.cell 4
    cases e1
    · cases e2
      · go_wp2
        go_ret
        exact ⟨rfl, B_10.out⟩
      · go_wp2
        go_ret
        exact ⟨rfl, B_10.out⟩
    · cases e2
      · go_wp2
        go_ret
        exact ⟨rfl, B_10.out⟩
      · go_wp2
        go_ret
        exact ⟨rfl, B_10.out⟩

theorem law_covers_out (op : Int) (m : Nat) (g : Gt) (vi vr : Value) (w : World) (q : Bool) (hi : Inn w vi g.ins) (hr : Inn w vr g.rows) (hq : fewgB g = q) (ho : q = true → ¬ (0 ≤ op ∧ op ≤ 9)) :
    Calls Tryd.prog 5 #[.int .i64 op, .int .u8 (m : Int), .agg #[.string g.name, .int .i64 g.op, vi, vr, .bool g.off]] w fun e w' => e = .returned (.bool true) ∧ Below w.heap.size w w' := by
  have HI := Lib.hid hi
  have HR := Lib.hid hr
  obtain ⟨pi, qi, rfl⟩ := hi.lst.slice
  obtain ⟨pr, qr, rfl⟩ := hr.lst.slice
  clear hi hr
  have HQ := Lib.hid hq
  have HO := Lib.hid ho
  clear hq ho
  go_enter Tryd.func5, Tryd.ntmps5
  go_wp2_with fail
  have a1 : Below w.heap.size w (w.alloc (.cells #[.string g.name, .int .i64 g.op, .slice pi g.ins.length qi, .slice pr g.rows.length qr, .bool g.off] 39)) := ((Below.refl w.heap.size w).alloc (by first | exact Nat.le_refl _ | (simp only [World.size_alloc]; omega)) (.cells #[.string g.name, .int .i64 g.op, .slice pi g.ins.length qi, .slice pr g.rows.length qr, .bool g.off] 39))
  have T_new0 := (Blk.new w #[.string g.name, .int .i64 g.op, .slice pi g.ins.length qi, .slice pr g.rows.length qr, .bool g.off] 39)
  have KT_00 := Lib.hid T_new0
  clear T_new0
  have I_1 := Lib.hid (HI.out.below a1)
  clear HI
  have R_1 := Lib.hid (HR.out.below a1)
  clear HR
  have B_1 := Lib.hid a1
  clear a1
  generalize (w.alloc (.cells #[.string g.name, .int .i64 g.op, .slice pi g.ins.length qi, .slice pr g.rows.length qr, .bool g.off] 39)) = w1 at I_1 R_1 KT_00 B_1 ⊢
  refine (works_any _).mono ?_
  rintro e w2 ⟨rfl, b2⟩
  have I_2 := Lib.hid (I_1.out.below b2)
  clear I_1
  have R_2 := Lib.hid (R_1.out.below b2)
  clear R_1
  have KT_2 := Lib.hid (KT_00.out.below b2 KT_00.out.lt)
  clear KT_00
  have B_2 := Lib.hid (B_1.out.trans (b2.mono B_1.out.size))
  clear B_1
  clear b2
  have lT_2 : w.heap.size < w2.heap.size := KT_2.out.lt
  have cT_0_2 : w2.cell? ⟨w.heap.size, 0, none⟩ = some (.string g.name) := KT_2.out.cell 0
  have cT_1_2 : w2.cell? ⟨w.heap.size, 1, none⟩ = some (.int .i64 g.op) := KT_2.out.cell 1
  have cT_2_2 : w2.cell? ⟨w.heap.size, 2, none⟩ = some (.slice pi g.ins.length qi) := KT_2.out.cell 2
  have cT_3_2 : w2.cell? ⟨w.heap.size, 3, none⟩ = some (.slice pr g.rows.length qr) := KT_2.out.cell 3
  have cT_4_2 : w2.cell? ⟨w.heap.size, 4, none⟩ = some (.bool g.off) := KT_2.out.cell 4
  go_wp2_with fail
  clear lT_2 cT_0_2 cT_1_2 cT_2_2 cT_3_2 cT_4_2
  refine (fewg_any g _ _ q _ I_2.out R_2.out HQ.out).mono ?_
  rintro e w3 ⟨rfl, b3⟩
  have I_3 := Lib.hid (I_2.out.below b3)
  clear I_2
  have R_3 := Lib.hid (R_2.out.below b3)
  clear R_2
  have KT_3 := Lib.hid (KT_2.out.below b3 KT_2.out.lt)
  clear KT_2
  have B_3 := Lib.hid (B_2.out.trans (b3.mono B_2.out.size))
  clear B_2
  clear b3
  cases q
  · go_wp2
    go_ret
    exact ⟨rfl, B_3.out⟩
  · have ho := HO.out (by trivial)
    by_cases h0 : op < 0
    · clear ho
      go_wp2
      go_ret
      exact ⟨rfl, B_3.out⟩
    · have h9 : 9 < op := by omega
      clear ho
      go_wp2
      go_ret
      exact ⟨rfl, B_3.out⟩

theorem law_covers (op n : Int) (g : Gt) (vi vr : Value) (w : World) (hn : (Lit.int .u8 n).wf = true) (hi : Inn w vi g.ins) (hr : Inn w vr g.rows) :
    Calls Tryd.prog 5 #[.int .i64 op, .int .u8 n, .agg #[.string g.name, .int .i64 g.op, vi, vr, .bool g.off]] w fun e w' => e = .returned (.bool true) ∧ Below w.heap.size w w' := by
  have h1 := (Lit.wf_int_iff .u8 n).1 hn
  have h2 : 0 ≤ n ∧ n ≤ 255 := h1
  obtain ⟨m, rfl⟩ : ∃ m : Nat, n = (m : Int) := ⟨n.toNat, by omega⟩
  by_cases hb : fewgB g = true
  · by_cases ho : 0 ≤ op ∧ op ≤ 9
    · obtain ⟨o, rfl⟩ : ∃ o : Nat, op = (o : Int) := ⟨op.toNat, by omega⟩
      exact law_covers_in o m g vi vr w (by omega) (by omega) hi hr hb
    · exact law_covers_out op m g vi vr w true hi hr hb (fun _ => ho)
  · exact law_covers_out op m g vi vr w false hi hr (by rwa [Bool.not_eq_true] at hb) (fun h => by cases h)
end Go.Proofs.YtfkmolbcgnkfdaaDoor
