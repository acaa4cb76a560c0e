/- All nets of a netlist. -/
import Derived.Test.YtfkmolbcgnkfdaaDoorBase
import Derived.Test.YtfkmolbcgnkfdaaDoorNetP
import Derived.Maps.AppendAt
namespace Go.Proofs.YtfkmolbcgnkfdaaDoor
open Go.RowKit
attribute [local go_sem] Oper.semAt_some
set_option maxRecDepth 100000
set_option maxHeartbeats 1000000

/-- a netlist of which no list is endless -/
structure Few (c : Ci) : Prop where
  ins : c.ins.length ≤ 100000
  outs : c.outs.length ≤ 100000
  las : c.las.length ≤ 100000
  gts : c.gts.length ≤ 100000
theorem take_map_succ {α : Type} (f : α → ByteArray) (pre : List ByteArray) (l : List α) (k : Nat) (x : α) (h : l[k]? = some x) : pre ++ (l.map f).take (k + 1) = (pre ++ (l.map f).take k) ++ [f x] := by
  rw [List.take_add_one, List.getElem?_map, h, List.append_assoc]
  rfl
theorem take_map_all {α : Type} (f : α → ByteArray) (pre : List ByteArray) (l : List α) : pre ++ (l.map f).take l.length = pre ++ l.map f := by
  rw [List.take_of_length_le (by simp)]
theorem cell_one_at (w : World) (x : Value) (t : TypeId) {n : Nat} (h : n = w.heap.size) : ∀ j u, [x][j]? = some u → (w.alloc (.cells #[x] t)).cell? ((⟨n, 0, none⟩ : Addr).add j) = some u := h ▸ cell_one_new w x t
theorem row_more {W : World} {B : Nat} {v : Value} {l : List ByteArray} {s : ByteArray} (h : W.ownsRow B 9 1 v (l.length + 1) (l.flatMap stc ++ [.string s])) : W.ownsRow B 9 1 v (l ++ [s]).length ((l ++ [s]).flatMap stc) := by
  rw [List.length_append, List.flatMap_append]
  exact h
theorem row_eq {W : World} {B : Nat} {v : Value} {l m : List ByteArray} (h : W.ownsRow B 9 1 v l.length (l.flatMap stc)) (e : l = m) : W.ownsRow B 9 1 v m.length (m.flatMap stc) := e ▸ h

theorem nets_any (c : Ci) (a b l g : Value) (w : World) (h : Cir w a b l g c) (hf : Few c) :
    Calls Tryd.prog 18 #[.agg #[a, b, l, g]] w fun e w' => ∃ V, e = .returned V ∧ w'.ownsRow w.heap.size 9 1 V (netsC c).length ((netsC c).flatMap stc) ∧ Below w.heap.size w w' := by
  obtain ⟨i0, hi, hz0, hz1, hz2⟩ := info_parts info9
  have H := Lib.hid h
  obtain ⟨pa, qa, pb, qb, pl, ql, pg, qg, rfl, rfl, rfl, rfl⟩ := h.slices
  have hf1 := hf.ins
  have hf2 := hf.outs
  have hf3 := hf.las
  have hf4 := hf.gts
  clear h hf
  go_enter Tryd.func18, Tryd.ntmps18
  go_wp2_with fail
  have a1 : Below w.heap.size w (w.alloc (.cells #[.slice pa c.ins.length qa, .slice pb c.outs.length qb, .slice pl c.las.length ql, .slice pg c.gts.length qg] 26)) := ((Below.refl w.heap.size w).alloc (by first | exact Nat.le_refl _ | (simp only [World.size_alloc]; omega)) (.cells #[.slice pa c.ins.length qa, .slice pb c.outs.length qb, .slice pl c.las.length ql, .slice pg c.gts.length qg] 26))
  have T_new0 := (Blk.new w #[.slice pa c.ins.length qa, .slice pb c.outs.length qb, .slice pl c.las.length ql, .slice pg c.gts.length qg] 26)
  have KT_00 := Lib.hid T_new0
  clear T_new0
  have C_1 := Lib.hid (H.out.below a1)
  clear H
  have B_1 := Lib.hid a1
  clear a1
  generalize (w.alloc (.cells #[.slice pa c.ins.length qa, .slice pb c.outs.length qb, .slice pl c.las.length ql, .slice pg c.gts.length qg] 26)) = w1 at C_1 KT_00 B_1 ⊢
  have C_s := C_1
  have KT_s := KT_00
  have B_s := B_1
  have Qs_0 := Lib.hid (Below.refl w1.heap.size w1)
  refine (clone_any c.ins _ _ hf1 C_1.out.ins.lst C_1.out.ins.nil).mono ?_
  rintro e w2 ⟨v1, rfl, r1, b2⟩
  have C_2 := Lib.hid (C_1.out.below b2)
  clear C_1
  have Qs_2 := Lib.hid (Qs_0.out.trans (b2.mono Qs_0.out.size))
  clear Qs_0
  have KT_2 := Lib.hid (KT_00.out.below b2 KT_00.out.lt)
  clear KT_00
  have B_2 := Lib.hid (B_1.out.trans (b2.mono B_1.out.size))
  clear B_1
  clear b2
  have R := Lib.hid (row_eq r1 (show c.ins = c.ins ++ (c.las.map (·.name)).take 0 by rw [List.take_zero, List.append_nil]))
  clear r1
  have lT_2 : w.heap.size < w2.heap.size := KT_2.out.lt
  have cT_0_2 : w2.cell? ⟨w.heap.size, 0, none⟩ = some (.slice pa c.ins.length qa) := KT_2.out.cell 0
  have cT_1_2 : w2.cell? ⟨w.heap.size, 1, none⟩ = some (.slice pb c.outs.length qb) := KT_2.out.cell 1
  have cT_2_2 : w2.cell? ⟨w.heap.size, 2, none⟩ = some (.slice pl c.las.length ql) := KT_2.out.cell 2
  have cT_3_2 : w2.cell? ⟨w.heap.size, 3, none⟩ = some (.slice pg c.gts.length qg) := KT_2.out.cell 3
  go_wp2
  clear lT_2 cT_0_2 cT_1_2 cT_2_2 cT_3_2
  go_loopw [3, 14] (fun x i wr => ∃ k : Nat, k ≤ c.las.length ∧ i = .int .i64 (k : Int) ∧ wr.ownsRow w1.heap.size 9 1 x (c.ins ++ (c.las.map (·.name)).take k).length ((c.ins ++ (c.las.map (·.name)).take k).flatMap stc) ∧ Below w1.heap.size w1 wr) (fun _ i _ => c.las.length - (intOf i).toNat)
  case atStart => exact ⟨0, by omega, rfl, R.out, Qs_2.out⟩
  case round =>
    obtain ⟨k, hk, rfl, hrow, hB⟩ := hrel
    clear R
    clear C_2 Qs_2 KT_2 B_2
    have C_sr := Lib.hid (C_s.out.below hB)
    have KT_sr := Lib.hid (KT_s.out.below hB KT_s.out.lt)
    have B_sr := Lib.hid (B_s.out.trans (hB.mono B_s.out.size))
    have Qsr := Lib.hid hB
    by_cases hlt : k < c.las.length
    · obtain ⟨eg, eo, ec, ex, hx, hv, hg, d0, d1, d2⟩ := C_sr.out.las.at_ hlt
      injection hv with e1 e2 e3
      subst e1 e3
      clear e2
      have hlt' : (k : Int) < (c.las.length : Int) := by omega
      have hle : (c.ins ++ (c.las.map (·.name)).take k).length ≤ 1000000 := by simp; omega
      have HT := Lib.hid (take_map_succ (·.name) (c.ins) c.las k ex hx)
      clear hx
      have hs1 := hB.size
      have HRow := Lib.hid hrow
      clear hrow
      generalize c.ins ++ (c.las.map (·.name)).take k = acc at *
      have lT_0 : w.heap.size < wr.heap.size := KT_sr.out.lt
      have cT_0_0 : wr.cell? ⟨w.heap.size, 0, none⟩ = some (.slice pa c.ins.length qa) := KT_sr.out.cell 0
      have cT_1_0 : wr.cell? ⟨w.heap.size, 1, none⟩ = some (.slice pb c.outs.length qb) := KT_sr.out.cell 1
      have cT_2_0 : wr.cell? ⟨w.heap.size, 2, none⟩ = some (.slice (some ⟨eg, eo, none⟩) c.las.length ql) := KT_sr.out.cell 2
      have cT_3_0 : wr.cell? ⟨w.heap.size, 3, none⟩ = some (.slice pg c.gts.length qg) := KT_sr.out.cell 3
      go_wp2_with (at_builtin; go_loud (refine wpList_append_own _ rfl _ _ 22 rfl w1.heap.size 9 i0 (.string ⟨#[]⟩) 1 16 Tryd.underlying22 hi hz0 hz1 hz2 rfl (by decide) _ acc.length _ rfl (row_below HRow.out (chain2 (below_one _ _) (below_one _ _))) ⟨wr.heap.size + 1, 0, none⟩ 1 1 [.string ex.name] rfl rfl (cell_one_at _ _ _ (by simp)) (by simp [Value.oneCell']) (by unfold maxLen; omega) (by omega) (by first | omega | (simp; omega)) ?_; intro v4 w4 r4 g4 _))
      have B5 := Lib.hid (((hB.alloc (by first | exact hs1 | (simp; omega)) _).alloc (by first | exact hs1 | (simp; omega)) _).grown g4 (by simp; omega) (fun j e => (HRow.out.lt j e).1))
      have r5 := row_more r4
      rw [← HT.out] at r5
      have R5 := Lib.hid r5
      clear r4 g4 r5 hB
      clear lT_0 cT_0_0 cT_1_0 cT_2_0 cT_3_0
      go_wp2
      refine ⟨⟨k + 1, by omega, by go_num, R5.out, B5.out⟩, ?_⟩
      simp [intOf]; omega
    · have hge : (c.las.length : Int) ≤ (k : Int) := by omega
      obtain rfl : k = c.las.length := by omega
      have R2 := Lib.hid (row_eq hrow (show _ = (c.ins ++ c.las.map (·.name)) ++ (c.gts.map (·.name)).take 0 by rw [take_map_all, List.take_zero, List.append_nil]))
      clear hrow
      have lT_0 : w.heap.size < wr.heap.size := KT_sr.out.lt
      have cT_0_0 : wr.cell? ⟨w.heap.size, 0, none⟩ = some (.slice pa c.ins.length qa) := KT_sr.out.cell 0
      have cT_1_0 : wr.cell? ⟨w.heap.size, 1, none⟩ = some (.slice pb c.outs.length qb) := KT_sr.out.cell 1
      have cT_2_0 : wr.cell? ⟨w.heap.size, 2, none⟩ = some (.slice pl c.las.length ql) := KT_sr.out.cell 2
      have cT_3_0 : wr.cell? ⟨w.heap.size, 3, none⟩ = some (.slice pg c.gts.length qg) := KT_sr.out.cell 3
      go_wp2
      clear lT_0 cT_0_0 cT_1_0 cT_2_0 cT_3_0
      go_loopw [3, 27] (fun x i wr => ∃ k : Nat, k ≤ c.gts.length ∧ i = .int .i64 (k : Int) ∧ wr.ownsRow w1.heap.size 9 1 x ((c.ins ++ c.las.map (·.name)) ++ (c.gts.map (·.name)).take k).length (((c.ins ++ c.las.map (·.name)) ++ (c.gts.map (·.name)).take k).flatMap stc) ∧ Below w1.heap.size w1 wr) (fun _ i _ => c.gts.length - (intOf i).toNat)
      case atStart => exact ⟨0, by omega, rfl, R2.out, Qsr.out⟩
      case round =>
        obtain ⟨k, hk, rfl, hrow, hB⟩ := hrel
        clear R2
        clear C_sr Qsr KT_sr B_sr
        have C_sr := Lib.hid (C_s.out.below hB)
        have KT_sr := Lib.hid (KT_s.out.below hB KT_s.out.lt)
        have B_sr := Lib.hid (B_s.out.trans (hB.mono B_s.out.size))
        have Qsr := Lib.hid hB
        by_cases hlt : k < c.gts.length
        · obtain ⟨eg, eo, ec, ex, er, hx, ha, hv, hg, d0, d1, d2, d3, d4⟩ := C_sr.out.gts.at_ hlt
          obtain ⟨pi, qi, ei⟩ := ha.ins.lst.slice
          obtain ⟨pr, qr, er'⟩ := ha.rows.lst.slice
          rw [ei] at d2
          rw [er'] at d3
          clear ha ei er'
          injection hv with e1 e2 e3
          subst e1 e3
          clear e2
          have hlt' : (k : Int) < (c.gts.length : Int) := by omega
          have hle : ((c.ins ++ c.las.map (·.name)) ++ (c.gts.map (·.name)).take k).length ≤ 1000000 := by simp; omega
          have HT := Lib.hid (take_map_succ (·.name) (c.ins ++ c.las.map (·.name)) c.gts k ex hx)
          clear hx
          have hs1 := hB.size
          have HRow := Lib.hid hrow
          clear hrow
          generalize (c.ins ++ c.las.map (·.name)) ++ (c.gts.map (·.name)).take k = acc at *
          have lT_0 : w.heap.size < wr.heap.size := KT_sr.out.lt
          have cT_0_0 : wr.cell? ⟨w.heap.size, 0, none⟩ = some (.slice pa c.ins.length qa) := KT_sr.out.cell 0
          have cT_1_0 : wr.cell? ⟨w.heap.size, 1, none⟩ = some (.slice pb c.outs.length qb) := KT_sr.out.cell 1
          have cT_2_0 : wr.cell? ⟨w.heap.size, 2, none⟩ = some (.slice pl c.las.length ql) := KT_sr.out.cell 2
          have cT_3_0 : wr.cell? ⟨w.heap.size, 3, none⟩ = some (.slice (some ⟨eg, eo, none⟩) c.gts.length qg) := KT_sr.out.cell 3
          go_wp2_with (at_builtin; go_loud (refine wpList_append_own _ rfl _ _ 22 rfl w1.heap.size 9 i0 (.string ⟨#[]⟩) 1 16 Tryd.underlying22 hi hz0 hz1 hz2 rfl (by decide) _ acc.length _ rfl (row_below HRow.out (chain2 (below_one _ _) (below_one _ _))) ⟨wr.heap.size + 1, 0, none⟩ 1 1 [.string ex.name] rfl rfl (cell_one_at _ _ _ (by simp)) (by simp [Value.oneCell']) (by unfold maxLen; omega) (by omega) (by first | omega | (simp; omega)) ?_; intro v4 w4 r4 g4 _))
          have B5 := Lib.hid (((hB.alloc (by first | exact hs1 | (simp; omega)) _).alloc (by first | exact hs1 | (simp; omega)) _).grown g4 (by simp; omega) (fun j e => (HRow.out.lt j e).1))
          have r5 := row_more r4
          rw [← HT.out] at r5
          have R5 := Lib.hid r5
          clear r4 g4 r5 hB
          clear lT_0 cT_0_0 cT_1_0 cT_2_0 cT_3_0
          go_wp2
          refine ⟨⟨k + 1, by omega, by go_num, R5.out, B5.out⟩, ?_⟩
          simp [intOf]; omega
        · have hge : (c.gts.length : Int) ≤ (k : Int) := by omega
          obtain rfl : k = c.gts.length := by omega
          have R9 := Lib.hid (row_eq hrow (show _ = netsC c by rw [take_map_all, List.append_assoc]; rfl))
          clear hrow hB
          have lT_0 : w.heap.size < wr.heap.size := KT_sr.out.lt
          have cT_0_0 : wr.cell? ⟨w.heap.size, 0, none⟩ = some (.slice pa c.ins.length qa) := KT_sr.out.cell 0
          have cT_1_0 : wr.cell? ⟨w.heap.size, 1, none⟩ = some (.slice pb c.outs.length qb) := KT_sr.out.cell 1
          have cT_2_0 : wr.cell? ⟨w.heap.size, 2, none⟩ = some (.slice pl c.las.length ql) := KT_sr.out.cell 2
          have cT_3_0 : wr.cell? ⟨w.heap.size, 3, none⟩ = some (.slice pg c.gts.length qg) := KT_sr.out.cell 3
          go_wp2
          go_ret
          exact ⟨_, rfl, row_mono R9.out B_s.out.size, B_sr.out⟩

theorem rnets_any (c : Ci) (a b l g : Value) (w : World) (h : Cir w a b l g c) (hf : Few c) :
    Calls Tryd.prog 19 #[.agg #[a, b, l, g]] w fun e w' => ∃ V, e = .returned V ∧ w'.ownsRow w.heap.size 9 1 V (netsC c).length ((netsC c).flatMap stc) ∧ Below w.heap.size w w' := by
  obtain ⟨i0, hi, hz0, hz1, hz2⟩ := info_parts info9
  have H := Lib.hid h
  obtain ⟨pa, qa, pb, qb, pl, ql, pg, qg, rfl, rfl, rfl, rfl⟩ := h.slices
  have hf1 := hf.ins
  have hf2 := hf.outs
  have hf3 := hf.las
  have hf4 := hf.gts
  clear h hf
  go_enter Tryd.func19, Tryd.ntmps19
  have a1 : Below w.heap.size w (w.alloc (.cells #[.slice pa c.ins.length qa, .slice pb c.outs.length qb, .slice pl c.las.length ql, .slice pg c.gts.length qg] 26)) := ((Below.refl w.heap.size w).alloc (by first | exact Nat.le_refl _ | (simp only [World.size_alloc]; omega)) (.cells #[.slice pa c.ins.length qa, .slice pb c.outs.length qb, .slice pl c.las.length ql, .slice pg c.gts.length qg] 26))
  have T_new0 := (Blk.new w #[.slice pa c.ins.length qa, .slice pb c.outs.length qb, .slice pl c.las.length ql, .slice pg c.gts.length qg] 26)
  have KT_00 := Lib.hid T_new0
  clear T_new0
  have C_1 := Lib.hid (H.out.below a1)
  clear H
  have B_1 := Lib.hid a1
  clear a1
  go_wp2_with (at_builtin; go_loud (refine wpList_append_lst (ec := stc) rfl _ _ 22 rfl (w.heap.size + 1) 9 i0 (.string ⟨#[]⟩) 1 16 Tryd.underlying22 hi hz0 hz1 hz2 rfl (by decide) _ 0 [] rfl (World.ownsRow_nil _ _ _ _) _ c.ins rfl C_1.out.ins.lst C_1.out.ins.nil stc_len (stc_one _) (by unfold maxLen; omega) (by omega) (by simp) ?_; intro v1 w2 r1 g1))
  have hz : w.heap.size + 1 = (w.alloc (.cells #[.slice pa c.ins.length qa, .slice pb c.outs.length qb, .slice pl c.las.length ql, .slice pg c.gts.length qg] 26)).heap.size := by simp
  rw [hz] at r1
  clear hz
  generalize (w.alloc (.cells #[.slice pa c.ins.length qa, .slice pb c.outs.length qb, .slice pl c.las.length ql, .slice pg c.gts.length qg] 26)) = w1 at C_1 KT_00 B_1 r1 g1
  have C_s := C_1
  have KT_s := KT_00
  have B_s := B_1
  have Qs_0 := Lib.hid (Below.refl w1.heap.size w1)
  have bA : Below w1.heap.size w1 w2 := (Below.refl _ _).grown g1 (Nat.le_refl _) (fun k e => by cases e)
  have C_2 := Lib.hid (C_1.out.below bA)
  clear C_1
  have Qs_2 := Lib.hid (Qs_0.out.trans (bA.mono Qs_0.out.size))
  clear Qs_0
  have KT_2 := Lib.hid (KT_00.out.below bA KT_00.out.lt)
  clear KT_00
  have B_2 := Lib.hid (B_1.out.trans (bA.mono B_1.out.size))
  clear B_1
  have R := Lib.hid (row_eq (l := c.ins) (by simpa using r1) (show c.ins = c.ins ++ (c.las.map (·.name)).take 0 by rw [List.take_zero, List.append_nil]))
  clear r1 g1 bA
  have lT_2 : w.heap.size < w2.heap.size := KT_2.out.lt
  have cT_0_2 : w2.cell? ⟨w.heap.size, 0, none⟩ = some (.slice pa c.ins.length qa) := KT_2.out.cell 0
  have cT_1_2 : w2.cell? ⟨w.heap.size, 1, none⟩ = some (.slice pb c.outs.length qb) := KT_2.out.cell 1
  have cT_2_2 : w2.cell? ⟨w.heap.size, 2, none⟩ = some (.slice pl c.las.length ql) := KT_2.out.cell 2
  have cT_3_2 : w2.cell? ⟨w.heap.size, 3, none⟩ = some (.slice pg c.gts.length qg) := KT_2.out.cell 3
  go_wp2
  clear lT_2 cT_0_2 cT_1_2 cT_2_2 cT_3_2
  go_loopw [3, 4] (fun x i wr => ∃ k : Nat, k ≤ c.las.length ∧ i = .int .i64 (k : Int) ∧ wr.ownsRow w1.heap.size 9 1 x (c.ins ++ (c.las.map (·.name)).take k).length ((c.ins ++ (c.las.map (·.name)).take k).flatMap stc) ∧ Below w1.heap.size w1 wr) (fun _ i _ => c.las.length - (intOf i).toNat)
  case atStart => exact ⟨0, by omega, rfl, R.out, Qs_2.out⟩
  case round =>
    obtain ⟨k, hk, rfl, hrow, hB⟩ := hrel
    clear R
    clear C_2 Qs_2 KT_2 B_2
    have C_sr := Lib.hid (C_s.out.below hB)
    have KT_sr := Lib.hid (KT_s.out.below hB KT_s.out.lt)
    have B_sr := Lib.hid (B_s.out.trans (hB.mono B_s.out.size))
    have Qsr := Lib.hid hB
    by_cases hlt : k < c.las.length
    · obtain ⟨eg, eo, ec, ex, hx, hv, hg, d0, d1, d2⟩ := C_sr.out.las.at_ hlt
      injection hv with e1 e2 e3
      subst e1 e3
      clear e2
      have hlt' : (k : Int) < (c.las.length : Int) := by omega
      have hle : (c.ins ++ (c.las.map (·.name)).take k).length ≤ 1000000 := by simp; omega
      have HT := Lib.hid (take_map_succ (·.name) (c.ins) c.las k ex hx)
      clear hx
      have hs1 := hB.size
      have HRow := Lib.hid hrow
      clear hrow
      generalize c.ins ++ (c.las.map (·.name)).take k = acc at *
      have lT_0 : w.heap.size < wr.heap.size := KT_sr.out.lt
      have cT_0_0 : wr.cell? ⟨w.heap.size, 0, none⟩ = some (.slice pa c.ins.length qa) := KT_sr.out.cell 0
      have cT_1_0 : wr.cell? ⟨w.heap.size, 1, none⟩ = some (.slice pb c.outs.length qb) := KT_sr.out.cell 1
      have cT_2_0 : wr.cell? ⟨w.heap.size, 2, none⟩ = some (.slice (some ⟨eg, eo, none⟩) c.las.length ql) := KT_sr.out.cell 2
      have cT_3_0 : wr.cell? ⟨w.heap.size, 3, none⟩ = some (.slice pg c.gts.length qg) := KT_sr.out.cell 3
      go_wp2_with (at_builtin; go_loud (refine wpList_append_own _ rfl _ _ 22 rfl w1.heap.size 9 i0 (.string ⟨#[]⟩) 1 16 Tryd.underlying22 hi hz0 hz1 hz2 rfl (by decide) _ acc.length _ rfl (row_below HRow.out (below_one _ _)) ⟨wr.heap.size, 0, none⟩ 1 1 [.string ex.name] rfl rfl (cell_one_at _ _ _ (by simp)) (by simp [Value.oneCell']) (by unfold maxLen; omega) (by omega) (by first | omega | (simp; omega)) ?_; intro v4 w4 r4 g4 _))
      have B5 := Lib.hid ((hB.alloc (by first | exact hs1 | (simp; omega)) _).grown g4 (by simp; omega) (fun j e => (HRow.out.lt j e).1))
      have r5 := row_more r4
      rw [← HT.out] at r5
      have R5 := Lib.hid r5
      clear r4 g4 r5 hB
      clear lT_0 cT_0_0 cT_1_0 cT_2_0 cT_3_0
      go_wp2
      refine ⟨⟨k + 1, by omega, by go_num, R5.out, B5.out⟩, ?_⟩
      simp [intOf]; omega
    · have hge : (c.las.length : Int) ≤ (k : Int) := by omega
      obtain rfl : k = c.las.length := by omega
      have R2 := Lib.hid (row_eq hrow (show _ = (c.ins ++ c.las.map (·.name)) ++ (c.gts.map (·.name)).take 0 by rw [take_map_all, List.take_zero, List.append_nil]))
      clear hrow
      have lT_0 : w.heap.size < wr.heap.size := KT_sr.out.lt
      have cT_0_0 : wr.cell? ⟨w.heap.size, 0, none⟩ = some (.slice pa c.ins.length qa) := KT_sr.out.cell 0
      have cT_1_0 : wr.cell? ⟨w.heap.size, 1, none⟩ = some (.slice pb c.outs.length qb) := KT_sr.out.cell 1
      have cT_2_0 : wr.cell? ⟨w.heap.size, 2, none⟩ = some (.slice pl c.las.length ql) := KT_sr.out.cell 2
      have cT_3_0 : wr.cell? ⟨w.heap.size, 3, none⟩ = some (.slice pg c.gts.length qg) := KT_sr.out.cell 3
      go_wp2
      clear lT_0 cT_0_0 cT_1_0 cT_2_0 cT_3_0
      go_loopw [3, 5] (fun x i wr => ∃ k : Nat, k ≤ c.gts.length ∧ i = .int .i64 (k : Int) ∧ wr.ownsRow w1.heap.size 9 1 x ((c.ins ++ c.las.map (·.name)) ++ (c.gts.map (·.name)).take k).length (((c.ins ++ c.las.map (·.name)) ++ (c.gts.map (·.name)).take k).flatMap stc) ∧ Below w1.heap.size w1 wr) (fun _ i _ => c.gts.length - (intOf i).toNat)
      case atStart => exact ⟨0, by omega, rfl, R2.out, Qsr.out⟩
      case round =>
        obtain ⟨k, hk, rfl, hrow, hB⟩ := hrel
        clear R2
        clear C_sr Qsr KT_sr B_sr
        have C_sr := Lib.hid (C_s.out.below hB)
        have KT_sr := Lib.hid (KT_s.out.below hB KT_s.out.lt)
        have B_sr := Lib.hid (B_s.out.trans (hB.mono B_s.out.size))
        have Qsr := Lib.hid hB
        by_cases hlt : k < c.gts.length
        · obtain ⟨eg, eo, ec, ex, er, hx, ha, hv, hg, d0, d1, d2, d3, d4⟩ := C_sr.out.gts.at_ hlt
          obtain ⟨pi, qi, ei⟩ := ha.ins.lst.slice
          obtain ⟨pr, qr, er'⟩ := ha.rows.lst.slice
          rw [ei] at d2
          rw [er'] at d3
          clear ha ei er'
          injection hv with e1 e2 e3
          subst e1 e3
          clear e2
          have hlt' : (k : Int) < (c.gts.length : Int) := by omega
          have hle : ((c.ins ++ c.las.map (·.name)) ++ (c.gts.map (·.name)).take k).length ≤ 1000000 := by simp; omega
          have HT := Lib.hid (take_map_succ (·.name) (c.ins ++ c.las.map (·.name)) c.gts k ex hx)
          clear hx
          have hs1 := hB.size
          have HRow := Lib.hid hrow
          clear hrow
          generalize (c.ins ++ c.las.map (·.name)) ++ (c.gts.map (·.name)).take k = acc at *
          have lT_0 : w.heap.size < wr.heap.size := KT_sr.out.lt
          have cT_0_0 : wr.cell? ⟨w.heap.size, 0, none⟩ = some (.slice pa c.ins.length qa) := KT_sr.out.cell 0
          have cT_1_0 : wr.cell? ⟨w.heap.size, 1, none⟩ = some (.slice pb c.outs.length qb) := KT_sr.out.cell 1
          have cT_2_0 : wr.cell? ⟨w.heap.size, 2, none⟩ = some (.slice pl c.las.length ql) := KT_sr.out.cell 2
          have cT_3_0 : wr.cell? ⟨w.heap.size, 3, none⟩ = some (.slice (some ⟨eg, eo, none⟩) c.gts.length qg) := KT_sr.out.cell 3
          go_wp2_with (at_builtin; go_loud (refine wpList_append_own _ rfl _ _ 22 rfl w1.heap.size 9 i0 (.string ⟨#[]⟩) 1 16 Tryd.underlying22 hi hz0 hz1 hz2 rfl (by decide) _ acc.length _ rfl (row_below HRow.out (below_one _ _)) ⟨wr.heap.size, 0, none⟩ 1 1 [.string ex.name] rfl rfl (cell_one_at _ _ _ (by simp)) (by simp [Value.oneCell']) (by unfold maxLen; omega) (by omega) (by first | omega | (simp; omega)) ?_; intro v4 w4 r4 g4 _))
          have B5 := Lib.hid ((hB.alloc (by first | exact hs1 | (simp; omega)) _).grown g4 (by simp; omega) (fun j e => (HRow.out.lt j e).1))
          have r5 := row_more r4
          rw [← HT.out] at r5
          have R5 := Lib.hid r5
          clear r4 g4 r5 hB
          clear lT_0 cT_0_0 cT_1_0 cT_2_0 cT_3_0
          go_wp2
          refine ⟨⟨k + 1, by omega, by go_num, R5.out, B5.out⟩, ?_⟩
          simp [intOf]; omega
        · have hge : (c.gts.length : Int) ≤ (k : Int) := by omega
          obtain rfl : k = c.gts.length := by omega
          have R9 := Lib.hid (row_eq hrow (show _ = netsC c by rw [take_map_all, List.append_assoc]; rfl))
          clear hrow hB
          have lT_0 : w.heap.size < wr.heap.size := KT_sr.out.lt
          have cT_0_0 : wr.cell? ⟨w.heap.size, 0, none⟩ = some (.slice pa c.ins.length qa) := KT_sr.out.cell 0
          have cT_1_0 : wr.cell? ⟨w.heap.size, 1, none⟩ = some (.slice pb c.outs.length qb) := KT_sr.out.cell 1
          have cT_2_0 : wr.cell? ⟨w.heap.size, 2, none⟩ = some (.slice pl c.las.length ql) := KT_sr.out.cell 2
          have cT_3_0 : wr.cell? ⟨w.heap.size, 3, none⟩ = some (.slice pg c.gts.length qg) := KT_sr.out.cell 3
          go_wp2
          go_ret
          exact ⟨_, rfl, row_mono R9.out B_s.out.size, B_sr.out⟩
end Go.Proofs.YtfkmolbcgnkfdaaDoor
