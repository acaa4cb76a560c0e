/- Texts of one kind together. -/
import Derived.Test.YtfkmolbcgnkfdaaDoorChk
import Derived.Deep.AppendLies
import Derived.Deep.QuietTactic
import Derived.BigQuiet
/- The document's own: all that is told, all that is used. -/
namespace Go.Proofs.YtfkmolbcgnkfdaaDoor
open Go.RowKit
attribute [local go_sem] Oper.semAt_some
set_option maxRecDepth 100000
set_option maxHeartbeats 1000000
theorem take_flat_gen {α : Type} (f : α → List ByteArray) (pre : List ByteArray) (l : List α) (k : Nat) (x : α) (h : l[k]? = some x) : pre ++ (l.take (k + 1)).flatMap f = (pre ++ (l.take k).flatMap f) ++ f x := by
  rw [List.take_add_one, h, List.flatMap_append, List.append_assoc]
  simp
theorem flat_pair (l : List La) : (l.flatMap laT).length = l.length * 2 := by
  induction l with
  | nil => rfl
  | cons x l ih => rw [List.flatMap_cons, List.length_append, ih, List.length_cons]; simp only [laT, List.length_cons, List.length_nil]; omega
theorem flat_told : ∀ (l : List Gt) (_ : FewG l), (l.flatMap gtT).length ≤ l.length * 100001
  | [], _ => by simp
  | g :: l, h => by
    have h1 := flat_told l (fun x hx => h x (by simp [hx]))
    have h2 := (h g (by simp)).1
    rw [List.flatMap_cons, List.length_append, List.length_cons]
    simp only [gtT, List.length_cons]
    omega
theorem far_ne {W : World} {B g : Nat} {v : Value} {n : Nat} {xs : List Value} (h : W.ownsRow B 9 1 v n xs) (hg : g < B) : some g ≠ v.ownBlock := fun e => by
  have := (h.lt g e.symm).1
  omega
theorem row_more_g {W : World} {B : Nat} {v : Value} {l : List ByteArray} {g : Gt} (h : W.ownsRow B 9 1 v (l.length + 1 + g.ins.length) ((l.flatMap stc ++ [.string g.name]) ++ g.ins.flatMap stc)) : W.ownsRow B 9 1 v (l ++ gtT g).length ((l ++ gtT g).flatMap stc) := by
  have e1 : (l ++ gtT g).length = l.length + 1 + g.ins.length := by simp [gtT]; omega
  have e2 : (l ++ gtT g).flatMap stc = (l.flatMap stc ++ [.string g.name]) ++ g.ins.flatMap stc := by simp [gtT, stc]
  rw [e1, e2]
  exact h
theorem row_more_p {W : World} {B : Nat} {v : Value} {l : List ByteArray} {x : La} (h : W.ownsRow B 9 1 v (l.length + 2) (l.flatMap stc ++ [.string x.name, .string x.next])) : W.ownsRow B 9 1 v (l ++ laT x).length ((l ++ laT x).flatMap stc) := by
  have e2 : (l ++ laT x).flatMap stc = l.flatMap stc ++ [.string x.name, .string x.next] := by simp [laT, stc]
  rw [List.length_append, e2]
  exact h
theorem used_any (c : Ci) (a b l g : Value) (w : World) (h : Cir w a b l g c) (hf : Few c) (hg : FewG c.gts) :
    Calls Tryd.prog 55 #[.agg #[a, b, l, g]] w fun e w' => ∃ V, e = .returned V ∧ w'.ownsRow w.heap.size 9 1 V (usedC c).length ((usedC c).flatMap stc) ∧ Below w.heap.size w w' := by
  obtain ⟨i0, hi, hz0, hz1, hz2⟩ := info_parts info9
  have HG := Lib.hid hg
  clear hg
  have H := Lib.hid h
  obtain ⟨pa, qa, pb, qb, pl, ql, pg, qg, rfl, rfl, rfl, rfl⟩ := h.slices
  have hf1 := hf.ins
  have hf2 := hf.outs
  have hf3 := hf.las
  have hf4 := hf.gts
  clear h hf
  go_enter Tryd.func55, Tryd.ntmps55
  have a1 : Below w.heap.size w (w.alloc (.cells #[.slice pa c.ins.length qa, .slice pb c.outs.length qb, .slice pl c.las.length ql, .slice pg c.gts.length qg] 26)) := ((Below.refl w.heap.size w).alloc (by first | exact Nat.le_refl _ | (simp only [World.size_alloc]; omega)) (.cells #[.slice pa c.ins.length qa, .slice pb c.outs.length qb, .slice pl c.las.length ql, .slice pg c.gts.length qg] 26))
  have T_new0 := (Blk.new w #[.slice pa c.ins.length qa, .slice pb c.outs.length qb, .slice pl c.las.length ql, .slice pg c.gts.length qg] 26)
  have KT_00 := Lib.hid T_new0
  clear T_new0
  have C_1 := Lib.hid (H.out.below a1)
  clear H
  have B_1 := Lib.hid a1
  clear a1
  go_wp2_with (at_builtin; go_loud (refine wpList_append_lst (ec := stc) rfl _ _ 22 rfl (w.heap.size + 1) 9 i0 (.string ⟨#[]⟩) 1 16 Tryd.underlying22 hi hz0 hz1 hz2 rfl (by decide) _ 0 [] rfl (World.ownsRow_nil _ _ _ _) _ c.outs rfl C_1.out.outs.lst C_1.out.outs.nil stc_len (stc_one _) (by unfold maxLen; omega) (by omega) (by simp) ?_; intro v1 w2 r1 g1))
  have hz : w.heap.size + 1 = (w.alloc (.cells #[.slice pa c.ins.length qa, .slice pb c.outs.length qb, .slice pl c.las.length ql, .slice pg c.gts.length qg] 26)).heap.size := by simp
  rw [hz] at r1
  clear hz
  generalize (w.alloc (.cells #[.slice pa c.ins.length qa, .slice pb c.outs.length qb, .slice pl c.las.length ql, .slice pg c.gts.length qg] 26)) = w1 at C_1 KT_00 B_1 r1 g1 ⊢
  have C_s := C_1
  have KT_s := KT_00
  have B_s := B_1
  have Qs_0 := Lib.hid (Below.refl w1.heap.size w1)
  have bA : Below w1.heap.size w1 w2 := (Below.refl _ _).grown g1 (Nat.le_refl _) (fun k e => by cases e)
  have C_2 := Lib.hid (C_1.out.below bA)
  clear C_1
  have Qs_2 := Lib.hid (Qs_0.out.trans (bA.mono Qs_0.out.size))
  clear Qs_0
  have KT_2 := Lib.hid (KT_00.out.below bA KT_00.out.lt)
  clear KT_00
  have B_2 := Lib.hid (B_1.out.trans (bA.mono B_1.out.size))
  clear B_1
  have R := Lib.hid (row_eq (l := c.outs) (by simpa using r1) (show c.outs = c.outs ++ (c.las.map (·.next)).take 0 by rw [List.take_zero, List.append_nil]))
  clear r1 g1 bA
  have lT_2 : w.heap.size < w2.heap.size := KT_2.out.lt
  have cT_0_2 : w2.cell? ⟨w.heap.size, 0, none⟩ = some (.slice pa c.ins.length qa) := KT_2.out.cell 0
  have cT_1_2 : w2.cell? ⟨w.heap.size, 1, none⟩ = some (.slice pb c.outs.length qb) := KT_2.out.cell 1
  have cT_2_2 : w2.cell? ⟨w.heap.size, 2, none⟩ = some (.slice pl c.las.length ql) := KT_2.out.cell 2
  have cT_3_2 : w2.cell? ⟨w.heap.size, 3, none⟩ = some (.slice pg c.gts.length qg) := KT_2.out.cell 3
  go_wp2
  clear lT_2 cT_0_2 cT_1_2 cT_2_2 cT_3_2
  go_loopw [3, 4] (fun x i wr => ∃ k : Nat, k ≤ c.las.length ∧ i = .int .i64 (k : Int) ∧ wr.ownsRow w1.heap.size 9 1 x (c.outs ++ (c.las.map (·.next)).take k).length ((c.outs ++ (c.las.map (·.next)).take k).flatMap stc) ∧ Below w1.heap.size w1 wr) (fun _ i _ => c.las.length - (intOf i).toNat)
  case atStart => exact ⟨0, by omega, rfl, R.out, Qs_2.out⟩
  case round =>
    obtain ⟨k, hk, rfl, hrow, hB⟩ := hrel
    clear R
    clear C_2 Qs_2 KT_2 B_2
    have C_sr := Lib.hid (C_s.out.below hB)
    have KT_sr := Lib.hid (KT_s.out.below hB KT_s.out.lt)
    have B_sr := Lib.hid (B_s.out.trans (hB.mono B_s.out.size))
    have Qsr := Lib.hid hB
    by_cases hlt : k < c.las.length
    · obtain ⟨eg, eo, ec, ex, hx, hv, hg, d0, d1, d2⟩ := C_sr.out.las.at_ hlt
      injection hv with e1 e2 e3
      subst e1 e3
      clear e2
      have hlt' : (k : Int) < (c.las.length : Int) := by omega
      have hle : (c.outs ++ (c.las.map (·.next)).take k).length ≤ 1000000 := by simp; omega
      have HT := Lib.hid (take_map_succ (·.next) c.outs c.las k ex hx)
      clear hx
      have hs1 := hB.size
      have HRow := Lib.hid hrow
      clear hrow
      generalize c.outs ++ (c.las.map (·.next)).take k = acc at *
      have lT_0 : w.heap.size < wr.heap.size := KT_sr.out.lt
      have cT_0_0 : wr.cell? ⟨w.heap.size, 0, none⟩ = some (.slice pa c.ins.length qa) := KT_sr.out.cell 0
      have cT_1_0 : wr.cell? ⟨w.heap.size, 1, none⟩ = some (.slice pb c.outs.length qb) := KT_sr.out.cell 1
      have cT_2_0 : wr.cell? ⟨w.heap.size, 2, none⟩ = some (.slice (some ⟨eg, eo, none⟩) c.las.length ql) := KT_sr.out.cell 2
      have cT_3_0 : wr.cell? ⟨w.heap.size, 3, none⟩ = some (.slice pg c.gts.length qg) := KT_sr.out.cell 3
      go_wp2_with (at_builtin; go_loud (refine wpList_append_own _ rfl _ _ 22 rfl w1.heap.size 9 i0 (.string ⟨#[]⟩) 1 16 Tryd.underlying22 hi hz0 hz1 hz2 rfl (by decide) _ acc.length _ rfl (row_below HRow.out (below_one _ _)) ⟨wr.heap.size, 0, none⟩ 1 1 [.string ex.next] rfl rfl (cell_one_at _ _ _ (by simp)) (by simp [Value.oneCell']) (by unfold maxLen; omega) (by omega) (by first | omega | (simp; omega)) ?_; intro v4 w4 r4 g4 _))
      have B5 := Lib.hid ((hB.alloc (by first | exact hs1 | (simp; omega)) _).grown g4 (by simp; omega) (fun j e => (HRow.out.lt j e).1))
      have r5 := row_more r4
      rw [← HT.out] at r5
      have R5 := Lib.hid r5
      clear r4 g4 r5 hB
      clear lT_0 cT_0_0 cT_1_0 cT_2_0 cT_3_0
      go_wp2
      refine ⟨⟨k + 1, by omega, by go_num, R5.out, B5.out⟩, ?_⟩
      simp [intOf]; omega
    · have hge : (c.las.length : Int) ≤ (k : Int) := by omega
      obtain rfl : k = c.las.length := by omega
      have R2 := Lib.hid (row_eq hrow (show _ = (c.outs ++ c.las.map (·.next)) ++ (c.gts.take 0).flatMap (·.ins) by rw [take_map_all, List.take_zero, List.flatMap_nil, List.append_nil]))
      clear hrow
      have HFP := Lib.hid (show (c.outs ++ c.las.map (·.next)).length ≤ 200000 by rw [List.length_append, List.length_map]; omega)
      have lT_0 : w.heap.size < wr.heap.size := KT_sr.out.lt
      have cT_0_0 : wr.cell? ⟨w.heap.size, 0, none⟩ = some (.slice pa c.ins.length qa) := KT_sr.out.cell 0
      have cT_1_0 : wr.cell? ⟨w.heap.size, 1, none⟩ = some (.slice pb c.outs.length qb) := KT_sr.out.cell 1
      have cT_2_0 : wr.cell? ⟨w.heap.size, 2, none⟩ = some (.slice pl c.las.length ql) := KT_sr.out.cell 2
      have cT_3_0 : wr.cell? ⟨w.heap.size, 3, none⟩ = some (.slice pg c.gts.length qg) := KT_sr.out.cell 3
      go_wp2
      clear lT_0 cT_0_0 cT_1_0 cT_2_0 cT_3_0
      go_loopw [3, 5] (fun x i wr => ∃ k : Nat, k ≤ c.gts.length ∧ i = .int .i64 (k : Int) ∧ wr.ownsRow w1.heap.size 9 1 x ((c.outs ++ c.las.map (·.next) ++ (c.gts.take k).flatMap (·.ins))).length (((c.outs ++ c.las.map (·.next) ++ (c.gts.take k).flatMap (·.ins))).flatMap stc) ∧ Below w1.heap.size w1 wr) (fun _ i _ => c.gts.length - (intOf i).toNat)
      case atStart => exact ⟨0, by omega, rfl, R2.out, Qsr.out⟩
      case round =>
        obtain ⟨k, hk, rfl, hrow, hB⟩ := hrel
        clear R2
        clear C_sr Qsr KT_sr B_sr
        have C_sr := Lib.hid (C_s.out.below hB)
        have KT_sr := Lib.hid (KT_s.out.below hB KT_s.out.lt)
        have B_sr := Lib.hid (B_s.out.trans (hB.mono B_s.out.size))
        have Qsr := Lib.hid hB
        by_cases hlt : k < c.gts.length
        · have hlt' : (k : Int) < (c.gts.length : Int) := by omega
          obtain ⟨eg, eo, ec, ex, er, hx, ha, hv, hg, d0, d1, d2, d3, d4⟩ := C_sr.out.gts.at_ hlt
          have HA := Lib.hid ha.ins
          obtain ⟨pi, qi, ei⟩ := ha.ins.lst.slice
          obtain ⟨pr, qr, er'⟩ := ha.rows.lst.slice
          rw [ei] at d2 HA
          rw [er'] at d3
          clear ha ei er'
          injection hv with e1 e2 e3
          subst e1 e3
          clear e2
          have hil := (HG.out ex (List.mem_of_getElem? hx)).1
          have HT := Lib.hid (take_flat_gen (·.ins) (c.outs ++ c.las.map (·.next)) c.gts k ex hx)
          clear hx
          have hle : ((c.outs ++ c.las.map (·.next) ++ (c.gts.take k).flatMap (·.ins))).length ≤ 20000000000 := by
            have h1 := flat_ins (c.gts.take k) (fun g hg => HG.out g (List.mem_of_mem_take hg))
            have h2 : (c.gts.take k).length ≤ 100000 := by simp; omega
            have h3 := HFP.out
            rw [List.length_append]
            omega
          have RW := Lib.hid hrow
          clear hrow
          generalize (c.outs ++ c.las.map (·.next) ++ (c.gts.take k).flatMap (·.ins)) = acc at HT RW hle ⊢
          have hs1 := hB.size
          have HBH := Lib.hid hB
          clear hB
          have lT_0 : w.heap.size < wr.heap.size := KT_sr.out.lt
          have cT_0_0 : wr.cell? ⟨w.heap.size, 0, none⟩ = some (.slice pa c.ins.length qa) := KT_sr.out.cell 0
          have cT_1_0 : wr.cell? ⟨w.heap.size, 1, none⟩ = some (.slice pb c.outs.length qb) := KT_sr.out.cell 1
          have cT_2_0 : wr.cell? ⟨w.heap.size, 2, none⟩ = some (.slice pl c.las.length ql) := KT_sr.out.cell 2
          have cT_3_0 : wr.cell? ⟨w.heap.size, 3, none⟩ = some (.slice (some ⟨eg, eo, none⟩) c.gts.length qg) := KT_sr.out.cell 3
          go_wp2_with (at_builtin; go_loud (refine wpList_append_lst (ec := stc) rfl _ _ 22 rfl w1.heap.size 9 i0 (.string ⟨#[]⟩) 1 16 Tryd.underlying22 hi hz0 hz1 hz2 rfl (by decide) _ acc.length _ rfl RW.out _ ex.ins rfl HA.out.lst HA.out.nil stc_len (stc_one _) (by unfold maxLen; omega) (by omega) (by omega) ?_; intro v4 w4 r4 g4))
          have B5 := Lib.hid (HBH.out.grown g4 (by omega) (fun j e => (RW.out.lt j e).1))
          have r5 := row_more_l r4
          rw [← HT.out] at r5
          have R5 := Lib.hid r5
          clear r4 g4 r5
          clear lT_0 cT_0_0 cT_1_0 cT_2_0 cT_3_0
          go_wp2
          refine ⟨⟨k + 1, by omega, by go_num, R5.out, B5.out⟩, ?_⟩
          simp [intOf]; omega
        · have hge : (c.gts.length : Int) ≤ (k : Int) := by omega
          obtain rfl : k = c.gts.length := by omega
          have R9 := Lib.hid (row_eq hrow (show _ = usedC c by rw [List.take_length, List.append_assoc]; rfl))
          clear hrow hB
          have lT_0 : w.heap.size < wr.heap.size := KT_sr.out.lt
          have cT_0_0 : wr.cell? ⟨w.heap.size, 0, none⟩ = some (.slice pa c.ins.length qa) := KT_sr.out.cell 0
          have cT_1_0 : wr.cell? ⟨w.heap.size, 1, none⟩ = some (.slice pb c.outs.length qb) := KT_sr.out.cell 1
          have cT_2_0 : wr.cell? ⟨w.heap.size, 2, none⟩ = some (.slice pl c.las.length ql) := KT_sr.out.cell 2
          have cT_3_0 : wr.cell? ⟨w.heap.size, 3, none⟩ = some (.slice pg c.gts.length qg) := KT_sr.out.cell 3
          go_wp2
          go_ret
          exact ⟨_, rfl, row_mono R9.out B_s.out.size, B_sr.out⟩

theorem told_any (c : Ci) (a b l g : Value) (w : World) (h : Cir w a b l g c) (hf : Few c) (hg : FewG c.gts) :
    Calls Tryd.prog 51 #[.agg #[a, b, l, g]] w fun e w' => ∃ V, e = .returned V ∧ w'.ownsRow w.heap.size 9 1 V (toldC c).length ((toldC c).flatMap stc) ∧ Below w.heap.size w w' := by
  obtain ⟨i0, hi, hz0, hz1, hz2⟩ := info_parts info9
  have HG := Lib.hid hg
  clear hg
  have H := Lib.hid h
  obtain ⟨pa, qa, pb, qb, pl, ql, pg, qg, rfl, rfl, rfl, rfl⟩ := h.slices
  have hf1 := hf.ins
  have hf2 := hf.outs
  have hf3 := hf.las
  have hf4 := hf.gts
  clear h hf
  go_enter Tryd.func51, Tryd.ntmps51
  have a1 : Below w.heap.size w (w.alloc (.cells #[.slice pa c.ins.length qa, .slice pb c.outs.length qb, .slice pl c.las.length ql, .slice pg c.gts.length qg] 26)) := ((Below.refl w.heap.size w).alloc (by first | exact Nat.le_refl _ | (simp only [World.size_alloc]; omega)) (.cells #[.slice pa c.ins.length qa, .slice pb c.outs.length qb, .slice pl c.las.length ql, .slice pg c.gts.length qg] 26))
  have T_new0 := (Blk.new w #[.slice pa c.ins.length qa, .slice pb c.outs.length qb, .slice pl c.las.length ql, .slice pg c.gts.length qg] 26)
  have KT_00 := Lib.hid T_new0
  clear T_new0
  have C_1 := Lib.hid (H.out.below a1)
  clear H
  have B_1 := Lib.hid a1
  clear a1
  go_wp2_with (first | (at_builtin; refine wpList_append_lst (ec := stc) rfl (.tmp 6) (.tmp 8) 22 rfl (w.heap.size + 1) 9 i0 (.string ⟨#[]⟩) 1 16 Tryd.underlying22 hi hz0 hz1 hz2 rfl (by decide) _ 0 [] rfl (World.ownsRow_nil _ _ _ _) _ c.ins rfl C_1.out.ins.lst C_1.out.ins.nil stc_len (stc_one _) (by unfold maxLen; omega) (by omega) (by simp) ?_; intro v1 w2 r1 g1; have q1 : Below (w.alloc (.cells #[.slice pa c.ins.length qa, .slice pb c.outs.length qb, .slice pl c.las.length ql, .slice pg c.gts.length qg] 26)).heap.size (w.alloc (.cells #[.slice pa c.ins.length qa, .slice pb c.outs.length qb, .slice pl c.las.length ql, .slice pg c.gts.length qg] 26)) w2 := (Below.refl _ _).grown g1 (Nat.le_refl _) (fun k e => by cases e); have C2 := C_1.out.below q1; have cT2 : w2.cell? ⟨w.heap.size, 1, none⟩ = some (.slice pb c.outs.length qb) := (KT_00.out.below q1 KT_00.out.lt).cell 1; have hsx := q1.size; simp only [World.size_alloc] at hsx) | (at_builtin; refine wpList_append_lst (ec := stc) rfl (.tmp 10) (.tmp 12) 22 rfl (w.heap.size + 1) 9 i0 (.string ⟨#[]⟩) 1 16 Tryd.underlying22 hi hz0 hz1 hz2 rfl (by decide) _ (0 + c.ins.length) _ rfl r1 _ c.outs rfl C2.outs.lst C2.outs.nil stc_len (stc_one _) (by unfold maxLen; omega) (by omega) (by omega) ?_; intro v2 w3 r2 g2))
  clear C2 cT2 hsx
  have hz : w.heap.size + 1 = (w.alloc (.cells #[.slice pa c.ins.length qa, .slice pb c.outs.length qb, .slice pl c.las.length ql, .slice pg c.gts.length qg] 26)).heap.size := by simp
  rw [hz] at r2 r1
  clear hz
  generalize (w.alloc (.cells #[.slice pa c.ins.length qa, .slice pb c.outs.length qb, .slice pl c.las.length ql, .slice pg c.gts.length qg] 26)) = w1 at C_1 KT_00 B_1 r1 r2 g1 g2 q1 ⊢
  have C_s := C_1
  have KT_s := KT_00
  have B_s := B_1
  have Qs_0 := Lib.hid (Below.refl w1.heap.size w1)
  have bA : Below w1.heap.size w1 w3 := q1.grown g2 q1.size (fun k e => (r1.lt k e).1)
  have C_3 := Lib.hid (C_1.out.below bA)
  clear C_1
  have Qs_3 := Lib.hid (Qs_0.out.trans (bA.mono Qs_0.out.size))
  clear Qs_0
  have KT_3 := Lib.hid (KT_00.out.below bA KT_00.out.lt)
  clear KT_00
  have B_3 := Lib.hid (B_1.out.trans (bA.mono B_1.out.size))
  clear B_1
  have R := Lib.hid (row_eq (l := c.ins ++ c.outs) (by simpa using r2) (show c.ins ++ c.outs = ((c.ins ++ c.outs) ++ (c.las.take 0).flatMap laT) by rw [List.take_zero, List.flatMap_nil, List.append_nil]))
  clear r1 r2 g1 g2 q1 bA
  have lT_3 : w.heap.size < w3.heap.size := KT_3.out.lt
  have cT_0_3 : w3.cell? ⟨w.heap.size, 0, none⟩ = some (.slice pa c.ins.length qa) := KT_3.out.cell 0
  have cT_1_3 : w3.cell? ⟨w.heap.size, 1, none⟩ = some (.slice pb c.outs.length qb) := KT_3.out.cell 1
  have cT_2_3 : w3.cell? ⟨w.heap.size, 2, none⟩ = some (.slice pl c.las.length ql) := KT_3.out.cell 2
  have cT_3_3 : w3.cell? ⟨w.heap.size, 3, none⟩ = some (.slice pg c.gts.length qg) := KT_3.out.cell 3
  go_wp2
  clear lT_3 cT_0_3 cT_1_3 cT_2_3 cT_3_3
  go_loopw [3, 4] (fun x i wr => ∃ k : Nat, k ≤ c.las.length ∧ i = .int .i64 (k : Int) ∧ wr.ownsRow w1.heap.size 9 1 x (((c.ins ++ c.outs) ++ (c.las.take k).flatMap laT)).length ((((c.ins ++ c.outs) ++ (c.las.take k).flatMap laT)).flatMap stc) ∧ Below w1.heap.size w1 wr) (fun _ i _ => c.las.length - (intOf i).toNat)
  case atStart => exact ⟨0, by omega, rfl, R.out, Qs_3.out⟩
  case round =>
    obtain ⟨k, hk, rfl, hrow, hB⟩ := hrel
    clear R
    clear C_3 Qs_3 KT_3 B_3
    have C_sr := Lib.hid (C_s.out.below hB)
    have KT_sr := Lib.hid (KT_s.out.below hB KT_s.out.lt)
    have B_sr := Lib.hid (B_s.out.trans (hB.mono B_s.out.size))
    have Qsr := Lib.hid hB
    by_cases hlt : k < c.las.length
    · have hlt' : (k : Int) < (c.las.length : Int) := by omega
      obtain ⟨eg, eo, ec, ex, hx, hv, hg, d0, d1, d2⟩ := C_s.out.las.at_ hlt
      injection hv with e1 e2 e3
      subst e1 e3
      clear e2
      have HT := Lib.hid (take_flat_gen laT (c.ins ++ c.outs) c.las k ex hx)
      clear hx d2
      have hle : (((c.ins ++ c.outs) ++ (c.las.take k).flatMap laT)).length ≤ 1000000 := by
        have h1 := flat_pair (c.las.take k)
        have h2 : (c.las.take k).length ≤ 100000 := by simp; omega
        simp only [List.length_append]
        omega
      have RW := Lib.hid hrow
      clear hrow
      generalize ((c.ins ++ c.outs) ++ (c.las.take k).flatMap laT) = acc at HT RW hle ⊢
      have hs1 := hB.size
      have d0 := (hB.cell (p := ⟨eg, eo + k * 3, none⟩) hg).trans d0
      have d1 := (hB.cell (p := ⟨eg, eo + k * 3 + 1, none⟩) hg).trans d1
      have HBH := Lib.hid hB
      clear hB
      have lT_0 : w.heap.size < wr.heap.size := KT_sr.out.lt
      have cT_0_0 : wr.cell? ⟨w.heap.size, 0, none⟩ = some (.slice pa c.ins.length qa) := KT_sr.out.cell 0
      have cT_1_0 : wr.cell? ⟨w.heap.size, 1, none⟩ = some (.slice pb c.outs.length qb) := KT_sr.out.cell 1
      have cT_2_0 : wr.cell? ⟨w.heap.size, 2, none⟩ = some (.slice (some ⟨eg, eo, none⟩) c.las.length ql) := KT_sr.out.cell 2
      have cT_3_0 : wr.cell? ⟨w.heap.size, 3, none⟩ = some (.slice pg c.gts.length qg) := KT_sr.out.cell 3
      have hg2 := far_ne RW.out hg
      have hg3 := far_ne RW.out KT_s.out.lt
      go_wp2_with fail
      go_region_held3 (fun w' => w'.cell? ⟨w.heap.size, 2, none⟩ = some (.slice (some ⟨eg, eo, none⟩) c.las.length ql) ∧ w'.cell? ⟨eg, eo + k * 3, none⟩ = some (.string ex.name) ∧ w'.cell? ⟨eg, eo + k * 3 + 1, none⟩ = some (.string ex.next))
        (first | go_keep | (go_split_ands; refine ⟨?_, ?_, ?_⟩ <;> (first | (rw [hgrow.cell_far _ (by simp; omega) hg2]; assumption) | (rw [hgrow.cell_far _ (by simp; omega) hg3]; assumption))))
        ((refine step_append_lies _ (by rfl) _ _ _ (by rfl) w1.heap.size 9 i0 _ 1 16 Tryd.underlying22 hi hz0 hz1 hz2 rfl (by omega) u3 acc.length _ (by rfl) ((RW.out.alloc _).drew) ⟨wr.heap.size, 0, none⟩ 2 2 [.string ex.name, .string ex.next] (by rfl) (by rfl) (World.news_of_block (cs := #[.string ex.name, .string ex.next]) (t := 9) (fr := (0, 0)) (heap_alloc_new wr _)) (fun x hx => by simp at hx; rcases hx with rfl | rfl <;> rfl) (by omega) (by unfold maxLen; omega) (by omega) (by simp; omega) (wr.heap.size + 1) (by simp) ?_; intro gg cap w5 hown1 hgrow hat hlt2))
      have B5 := Lib.hid (Below.grown ((HBH.out.alloc hs1 (.cells #[.string ex.name, .string ex.next] 9)).drew) hgrow (by simp; omega) (fun j hj => (RW.out.lt j hj).1))
      have r5 := row_more_p hown1
      rw [← HT.out] at r5
      have R5 := Lib.hid r5
      clear hown1 hgrow r5
      go_wp2
      refine ⟨⟨k + 1, by omega, by go_num, R5.out, B5.out⟩, ?_⟩
      simp [intOf]; omega
    · have hge : (c.las.length : Int) ≤ (k : Int) := by omega
      obtain rfl : k = c.las.length := by omega
      have R2 := Lib.hid (row_eq hrow (show _ = ((c.ins ++ c.outs) ++ c.las.flatMap laT) ++ (c.gts.take 0).flatMap gtT by rw [List.take_length, List.take_zero, List.flatMap_nil, List.append_nil]))
      clear hrow hB
      have HFP := Lib.hid (show ((c.ins ++ c.outs) ++ c.las.flatMap laT).length ≤ 400000 by have := flat_pair c.las; simp only [List.length_append]; omega)
      have lT_0 : w.heap.size < wr.heap.size := KT_sr.out.lt
      have cT_0_0 : wr.cell? ⟨w.heap.size, 0, none⟩ = some (.slice pa c.ins.length qa) := KT_sr.out.cell 0
      have cT_1_0 : wr.cell? ⟨w.heap.size, 1, none⟩ = some (.slice pb c.outs.length qb) := KT_sr.out.cell 1
      have cT_2_0 : wr.cell? ⟨w.heap.size, 2, none⟩ = some (.slice pl c.las.length ql) := KT_sr.out.cell 2
      have cT_3_0 : wr.cell? ⟨w.heap.size, 3, none⟩ = some (.slice pg c.gts.length qg) := KT_sr.out.cell 3
      go_wp2
      clear lT_0 cT_0_0 cT_1_0 cT_2_0 cT_3_0
      go_loopw [3, 5] (fun x i wr => ∃ k : Nat, k ≤ c.gts.length ∧ i = .int .i64 (k : Int) ∧ wr.ownsRow w1.heap.size 9 1 x (((c.ins ++ c.outs) ++ c.las.flatMap laT ++ (c.gts.take k).flatMap gtT)).length ((((c.ins ++ c.outs) ++ c.las.flatMap laT ++ (c.gts.take k).flatMap gtT)).flatMap stc) ∧ Below w1.heap.size w1 wr) (fun _ i _ => c.gts.length - (intOf i).toNat)
      case atStart => exact ⟨0, by omega, rfl, R2.out, Qsr.out⟩
      case round =>
        obtain ⟨k, hk, rfl, hrow, hB⟩ := hrel
        clear R2
        clear C_sr Qsr KT_sr B_sr
        have C_sr := Lib.hid (C_s.out.below hB)
        have KT_sr := Lib.hid (KT_s.out.below hB KT_s.out.lt)
        have B_sr := Lib.hid (B_s.out.trans (hB.mono B_s.out.size))
        have Qsr := Lib.hid hB
        by_cases hlt : k < c.gts.length
        · have hlt' : (k : Int) < (c.gts.length : Int) := by omega
          obtain ⟨eg, eo, ec, ex, er, hx, ha, hv, hg, d0, d1, d2, d3, d4⟩ := C_s.out.gts.at_ hlt
          have HA := Lib.hid ha.ins
          obtain ⟨pi, qi, ei⟩ := ha.ins.lst.slice
          obtain ⟨pr, qr, er'⟩ := ha.rows.lst.slice
          rw [ei] at d2 HA
          rw [er'] at d3
          clear ha ei er'
          injection hv with e1 e2 e3
          subst e1 e3
          clear e2
          have D2 := Lib.hid d2
          have d0 := (hB.cell (p := ⟨eg, eo + k * 5, none⟩) hg).trans d0
          clear d1 d2 d3 d4
          have hil := (HG.out ex (List.mem_of_getElem? hx)).1
          have HT := Lib.hid (take_flat_gen gtT ((c.ins ++ c.outs) ++ c.las.flatMap laT) c.gts k ex hx)
          clear hx
          have hle : (((c.ins ++ c.outs) ++ c.las.flatMap laT ++ (c.gts.take k).flatMap gtT)).length ≤ 20000000000 := by
            have h1 := flat_told (c.gts.take k) (fun g hg => HG.out g (List.mem_of_mem_take hg))
            have h2 : (c.gts.take k).length ≤ 100000 := by simp; omega
            have h3 := HFP.out
            rw [List.length_append]
            omega
          have RW := Lib.hid hrow
          clear hrow
          generalize ((c.ins ++ c.outs) ++ c.las.flatMap laT ++ (c.gts.take k).flatMap gtT) = acc at HT RW hle ⊢
          have hs1 := hB.size
          have HBH := Lib.hid hB
          clear hB
          have lT_0 : w.heap.size < wr.heap.size := KT_sr.out.lt
          have cT_0_0 : wr.cell? ⟨w.heap.size, 0, none⟩ = some (.slice pa c.ins.length qa) := KT_sr.out.cell 0
          have cT_1_0 : wr.cell? ⟨w.heap.size, 1, none⟩ = some (.slice pb c.outs.length qb) := KT_sr.out.cell 1
          have cT_2_0 : wr.cell? ⟨w.heap.size, 2, none⟩ = some (.slice pl c.las.length ql) := KT_sr.out.cell 2
          have cT_3_0 : wr.cell? ⟨w.heap.size, 3, none⟩ = some (.slice (some ⟨eg, eo, none⟩) c.gts.length qg) := KT_sr.out.cell 3
          go_wp2_with (first | (at_builtin; refine wpList_append_own _ rfl (.tmp 43) (.tmp 50) 22 rfl w1.heap.size 9 i0 (.string ⟨#[]⟩) 1 16 Tryd.underlying22 hi hz0 hz1 hz2 rfl (by decide) _ acc.length _ rfl (row_below RW.out (below_one _ _)) ⟨wr.heap.size, 0, none⟩ 1 1 [.string ex.name] rfl rfl (cell_one_at _ _ _ (by simp)) (by simp [Value.oneCell']) (by unfold maxLen; omega) (by omega) (by first | omega | (simp; omega)) ?_; intro v4 w4 r4 g4 _; have b4 := (HBH.out.alloc hs1 (.cells #[.string ex.name] 9)).grown g4 (by simp; omega) (fun j e => (RW.out.lt j e).1); have hs4 := b4.size; have t4 : w4.cell? ⟨w.heap.size, 3, none⟩ = some (.slice (some ⟨eg, eo, none⟩) c.gts.length qg) := (KT_s.out.below b4 KT_s.out.lt).cell 3; have e4 := (b4.cell (p := ⟨eg, eo + k * 5 + 2, none⟩) hg).trans D2.out) | (at_builtin; refine wpList_append_lst (ec := stc) rfl (.tmp 52) (.tmp 58) 22 rfl w1.heap.size 9 i0 (.string ⟨#[]⟩) 1 16 Tryd.underlying22 hi hz0 hz1 hz2 rfl (by decide) _ (acc.length + 1) _ rfl r4 _ ex.ins rfl (HA.out.below b4).lst HA.out.nil stc_len (stc_one _) (by unfold maxLen; omega) (by omega) (by omega) ?_; intro v5 w5 r5 g5))
          have B5 := Lib.hid (b4.grown g5 (by omega) (fun j e => (r4.lt j e).1))
          have r6 := row_more_g r5
          rw [← HT.out] at r6
          have R5 := Lib.hid r6
          clear r4 g4 r5 g5 r6 b4 t4 e4 hs4
          clear lT_0 cT_0_0 cT_1_0 cT_2_0 cT_3_0
          go_wp2
          refine ⟨⟨k + 1, by omega, by go_num, R5.out, B5.out⟩, ?_⟩
          simp [intOf]; omega
        · have hge : (c.gts.length : Int) ≤ (k : Int) := by omega
          obtain rfl : k = c.gts.length := by omega
          have R9 := Lib.hid (row_eq hrow (show _ = toldC c by rw [List.take_length, List.append_assoc, List.append_assoc]; rfl))
          clear hrow hB
          have lT_0 : w.heap.size < wr.heap.size := KT_sr.out.lt
          have cT_0_0 : wr.cell? ⟨w.heap.size, 0, none⟩ = some (.slice pa c.ins.length qa) := KT_sr.out.cell 0
          have cT_1_0 : wr.cell? ⟨w.heap.size, 1, none⟩ = some (.slice pb c.outs.length qb) := KT_sr.out.cell 1
          have cT_2_0 : wr.cell? ⟨w.heap.size, 2, none⟩ = some (.slice pl c.las.length ql) := KT_sr.out.cell 2
          have cT_3_0 : wr.cell? ⟨w.heap.size, 3, none⟩ = some (.slice pg c.gts.length qg) := KT_sr.out.cell 3
          go_wp2
          go_ret
          exact ⟨_, rfl, row_mono R9.out B_s.out.size, B_sr.out⟩
end Go.Proofs.YtfkmolbcgnkfdaaDoor

/- The document's own: may a netlist be. -/
namespace Go.Proofs.YtfkmolbcgnkfdaaDoor
open Go.RowKit
attribute [local go_sem] Oper.semAt_some
set_option maxRecDepth 100000
set_option maxHeartbeats 1000000
theorem Lst.front {W : World} {b : Option Addr} {c : Nat} {l : List ByteArray} (h : Lst stc W (.slice b l.length c) l) (k : Nat) (hk : k ≤ l.length) (c' : Nat) : Lst stc W (.slice b k c') (l.take k) := by
  obtain ⟨b', o, c2, e, hh⟩ := h
  cases e
  refine ⟨b, o, c', by rw [List.length_take, Nat.min_eq_left hk], fun hne => ?_⟩
  obtain ⟨g, e, hg, hc⟩ := hh (fun h0 => hne (by rw [h0]; simp))
  refine ⟨g, e, hg, fun j u hj => hc j u ?_⟩
  have : l.flatMap stc = (l.take k).flatMap stc ++ (l.drop k).flatMap stc := by rw [← List.flatMap_append, List.take_append_drop]
  rw [this, List.getElem?_append_left (List.getElem?_eq_some_iff.1 hj).1]
  exact hj
theorem rtwice_any (l : List ByteArray) (v : Value) (t : Option ByteArray) (w : World) (hl : l.length ≤ 100000) (ht : Lst stc w v l) (hcap : CapFine v) (htt : twiceF [] l = t) :
    Calls Tryd.prog 53 #[v] w fun e w' => e = .returned (.tuple #[.string (t.getD noneT), .bool t.isSome]) ∧ Below w.heap.size w w' := by
  have HT := Lib.hid ht
  have HTT := Lib.hid htt
  obtain ⟨b, c, rfl⟩ := ht.slice
  have hc0 := hcap _ _ _ rfl
  clear ht hcap htt
  go_enter Tryd.func53, Tryd.ntmps53
  go_wp2
  go_loopw [4] (fun i wr => ∃ k : Nat, k ≤ l.length ∧ i = .int .i64 (k : Int) ∧ Below w.heap.size w wr ∧ Hid (twiceF (l.take k) (l.drop k) = t)) (fun i _ => l.length - (intOf i).toNat)
  case atStart => exact ⟨0, by omega, rfl, Below.refl _ _, HTT⟩
  case round =>
    obtain ⟨k, hk, rfl, hB, htw⟩ := hrel
    clear HTT
    have HB := Lib.hid hB
    by_cases hlt : k < l.length
    · have hlt' : (k : Int) < (l.length : Int) := by omega
      have hkc : (k : Int) ≤ (c : Int) := by omega
      have hFR := Lib.hid (HT.out.front k (by omega) c)
      obtain ⟨g, o, cc, x, hx, hv, hg, hc⟩ := HT.out.at_ stc_len hlt
      injection hv with h1 h2 h3
      subst h1 h3
      clear h2
      have d0 : wr.cell? ⟨g, o + k, none⟩ = some (.string x) := (hB.cell (p := ⟨g, o + k, none⟩) hg).trans (by have := hc 0 (by omega); simpa [stc] using this)
      have TW := Lib.hid ((twice_step l k x hx).symm.trans htw.out)
      obtain ⟨u, hu⟩ : ∃ u, usedB (l.take k) x = u := ⟨_, rfl⟩
      rw [hu] at TW
      have HU := Lib.hid hu
      have hkl : (l.take k).length ≤ 100000 := by rw [List.length_take]; omega
      have HKL := Lib.hid hkl
      clear hc hx hB hu hkl htw
      have hcall : ∀ n, Calls Tryd.prog 43 #[.slice (some ⟨g, o, none⟩) k c, .string x] (wr.drewN n) fun e w' => e = .returned (.bool u) ∧ w' = wr.drewN n := fun n =>
        (has_any (l.take k) _ x _ HKL.out (hFR.out.below (below_drewN HB.out n))).mono fun _ _ h => ⟨by rw [← HU.out]; exact h.1, h.2.symm⟩
      have HCALL := Lib.hid hcall
      clear hcall
      go_wp2_with fail
      go_quiet (exact Calls.quiet_of_same (HCALL.out _))
      cases u
      · have HN := Lib.hid (show twiceF (l.take (k + 1)) (l.drop (k + 1)) = t from TW.out)
        clear TW
        go_wp2
        refine ⟨⟨k + 1, by omega, by go_num, below_drewN HB.out _, HN⟩, ?_⟩
        simp [intOf]; omega
      · have hqt : some x = t := TW.out
        subst hqt
        clear TW
        go_wp2
        go_ret2
        exact ⟨rfl, below_drewN HB.out _⟩
    · have hge : (l.length : Int) ≤ (k : Int) := by omega
      have hqf : none = t := by rw [← htw.out, List.drop_of_length_le (by omega)]; rfl
      subst hqf
      clear hB htw
      go_wp2
      go_ret2
      exact ⟨rfl, HB.out⟩
end Go.Proofs.YtfkmolbcgnkfdaaDoor

/- The document's own: may a netlist be, and if not, why. -/
namespace Go.Proofs.YtfkmolbcgnkfdaaDoor
open Go.RowKit
attribute [local go_sem] Oper.semAt_some
set_option maxRecDepth 100000
set_option maxHeartbeats 1000000
theorem limit_ex (c : Ci) (a b l g : Value) (q : Bool) (w : World) (h : Cir w a b l g c) (hf : Few c) (hq : limitB c = q) : Calls Tryd.prog 50 #[.agg #[a, b, l, g]] w fun e w' => e = .returned (.bool q) ∧ Below w.heap.size w w' := by
  subst hq
  exact limit_any c a b l g w h hf
theorem rname_ex (s : ByteArray) (q : Bool) (w : World) (hs : s.size ≤ 100000) (hq : nameB s = q) : Calls Tryd.prog 52 #[.string s] w fun e w' => e = .returned (.bool q) ∧ w = w' := by
  subst hq
  exact rname_any s w hs
theorem rgate_ex (g : Gt) (vi vr : Value) (q : Bool) (w : World) (hi : Inn w vi g.ins) (hr : Inn w vr g.rows) (l : g.ins.length ≤ 100000 ∧ g.rows.length ≤ 100000) (hz : ∀ s ∈ g.rows, s.size ≤ 100000) (hq : gateB g = q) :
    Calls Tryd.prog 54 #[.agg #[.string g.name, .int .i64 g.op, vi, vr, .bool g.off]] w fun e w' => e = .returned (.bool q) ∧ Below w.heap.size w w' := by
  subst hq
  exact rgate_any g vi vr w hi hr l.1 l.2 hz
theorem has_ex (l : List ByteArray) (v : Value) (s : ByteArray) (q : Bool) (w : World) (hl : l.length ≤ 100000) (ht : Lst stc w v l) (hq : usedB l s = q) : Calls Tryd.prog 43 #[v, .string s] w fun e w' => e = .returned (.bool q) ∧ w = w' := by
  subst hq
  exact has_any l v s w hl ht
theorem limit_small {c : Ci} (h : limitB c = false) : (netsC c).length ≤ 200 ∧ c.outs.length ≤ 200 := by
  unfold limitB at h
  rw [Bool.or_eq_false_iff, Bool.or_eq_false_iff, decide_eq_false_iff_not, decide_eq_false_iff_not] at h
  refine ⟨?_, by omega⟩
  simp only [netsC, List.length_append, List.length_map]
  omega
theorem told_len {c : Ci} (hf : Few c) (hg : FewG c.gts) : (toldC c).length ≤ 20000000000 := by
  have h1 := flat_told c.gts hg
  have h2 := flat_pair c.las
  have a1 := hf.ins
  have a2 := hf.outs
  have a3 := hf.las
  have a4 := hf.gts
  have e : (toldC c).length = c.ins.length + (c.outs.length + ((c.las.flatMap laT).length + (c.gts.flatMap gtT).length)) := by
    rw [show toldC c = c.ins ++ (c.outs ++ (c.las.flatMap laT ++ c.gts.flatMap gtT)) from rfl]
    simp only [List.length_append]
  omega
theorem used_len {c : Ci} (hf : Few c) (hg : FewG c.gts) : (usedC c).length ≤ 20000000000 := by
  have h1 := flat_ins c.gts hg
  have a2 := hf.outs
  have a3 := hf.las
  have a4 := hf.gts
  have e : (usedC c).length = c.outs.length + (c.las.length + (c.gts.flatMap (·.ins)).length) := by
    simp only [usedC, List.length_append, List.length_map]
  omega
theorem rcheck_any (c : Ci) (a b l g : Value) (w : World) (h : Cir w a b l g c) (hf : Few c) (hg : FewG c.gts) (hz : FewZ c.gts) (hs : ∀ s ∈ toldC c, s.size ≤ 100000) :
    Calls Tryd.prog 16 #[.agg #[a, b, l, g]] w fun e w' => e = .returned (.tuple #[.int .i64 (checkC c).1, .string (checkC c).2]) ∧ Below w.heap.size w w' := by
  have H := Lib.hid h
  obtain ⟨pa, qa, pb, qb, pl, ql, pg, qg, rfl, rfl, rfl, rfl⟩ := h.slices
  obtain ⟨X1, hX1⟩ : ∃ x, (checkC c).1 = x := ⟨_, rfl⟩
  obtain ⟨X2, hX2⟩ : ∃ x, (checkC c).2 = x := ⟨_, rfl⟩
  rw [hX1, hX2]
  have hf1 := hf.ins
  have hf2 := hf.outs
  have hf3 := hf.las
  have hf4 := hf.gts
  have HTL := Lib.hid (told_len hf hg)
  have HUL := Lib.hid (used_len hf hg)
  have HF := Lib.hid hf
  have HG := Lib.hid hg
  have HZ := Lib.hid hz
  have HS := Lib.hid hs
  have HE := Lib.hid (show checkC c = (X1, X2) by rw [← hX1, ← hX2])
  clear h hf hg hz hs hX1 hX2
  go_enter Tryd.func16, Tryd.ntmps16
  go_wp2_with fail
  have a1 : Below w.heap.size w (w.alloc (.cells #[.slice pa c.ins.length qa, .slice pb c.outs.length qb, .slice pl c.las.length ql, .slice pg c.gts.length qg] 26)) := ((Below.refl w.heap.size w).alloc (by first | exact Nat.le_refl _ | (simp only [World.size_alloc]; omega)) (.cells #[.slice pa c.ins.length qa, .slice pb c.outs.length qb, .slice pl c.las.length ql, .slice pg c.gts.length qg] 26))
  have T_new0 := (Blk.new w #[.slice pa c.ins.length qa, .slice pb c.outs.length qb, .slice pl c.las.length ql, .slice pg c.gts.length qg] 26)
  have KT_00 := Lib.hid T_new0
  clear T_new0
  have C_1 := Lib.hid (H.out.below a1)
  clear H
  have B_1 := Lib.hid a1
  clear a1
  generalize (w.alloc (.cells #[.slice pa c.ins.length qa, .slice pb c.outs.length qb, .slice pl c.las.length ql, .slice pg c.gts.length qg] 26)) = w1 at C_1 KT_00 B_1 ⊢
  have lT_1 : w.heap.size < w1.heap.size := KT_00.out.lt
  have cT_0_1 : w1.cell? ⟨w.heap.size, 0, none⟩ = some (.slice pa c.ins.length qa) := KT_00.out.cell 0
  have cT_1_1 : w1.cell? ⟨w.heap.size, 1, none⟩ = some (.slice pb c.outs.length qb) := KT_00.out.cell 1
  have cT_2_1 : w1.cell? ⟨w.heap.size, 2, none⟩ = some (.slice pl c.las.length ql) := KT_00.out.cell 2
  have cT_3_1 : w1.cell? ⟨w.heap.size, 3, none⟩ = some (.slice pg c.gts.length qg) := KT_00.out.cell 3
  go_wp2_with fail
  obtain ⟨q0, h0⟩ : ∃ q, limitB c = q := ⟨_, rfl⟩
  have Hl := Lib.hid h0
  clear h0
  clear lT_1 cT_0_1 cT_1_1 cT_2_1 cT_3_1
  refine (limit_ex c _ _ _ _ q0 _ C_1.out HF.out Hl.out).mono ?_
  rintro e w2 ⟨rfl, b2⟩
  have C_2 := Lib.hid (C_1.out.below b2)
  clear C_1
  have KT_2 := Lib.hid (KT_00.out.below b2 KT_00.out.lt)
  clear KT_00
  have B_2 := Lib.hid (B_1.out.trans (b2.mono B_1.out.size))
  clear B_1
  clear b2
  cases q0
  · have hsm := limit_small Hl.out
    have lT_2 : w.heap.size < w2.heap.size := KT_2.out.lt
    have cT_0_2 : w2.cell? ⟨w.heap.size, 0, none⟩ = some (.slice pa c.ins.length qa) := KT_2.out.cell 0
    have cT_1_2 : w2.cell? ⟨w.heap.size, 1, none⟩ = some (.slice pb c.outs.length qb) := KT_2.out.cell 1
    have cT_2_2 : w2.cell? ⟨w.heap.size, 2, none⟩ = some (.slice pl c.las.length ql) := KT_2.out.cell 2
    have cT_3_2 : w2.cell? ⟨w.heap.size, 3, none⟩ = some (.slice pg c.gts.length qg) := KT_2.out.cell 3
    go_wp2_with fail
    clear lT_2 cT_0_2 cT_1_2 cT_2_2 cT_3_2
    refine (told_any c _ _ _ _ _ C_2.out HF.out HG.out).mono ?_
    rintro e w3 ⟨v1, rfl, r1, b3⟩
    have C_3 := Lib.hid (C_2.out.below b3)
    clear C_2
    have KT_3 := Lib.hid (KT_2.out.below b3 KT_2.out.lt)
    clear KT_2
    have B_3 := Lib.hid (B_2.out.trans (b3.mono B_2.out.size))
    clear B_2
    clear b3
    have LT := Lib.hid (Lst.of_row r1)
    obtain ⟨tb, tc, rfl⟩ := row_slice r1
    clear r1
    have htl := HTL.out
    have C_a := C_3
    have LT_a := LT
    have KT_a := KT_3
    have B_a := B_3
    have Qa_0 := Lib.hid (Below.refl w3.heap.size w3)
    have lT_3 : w.heap.size < w3.heap.size := KT_3.out.lt
    have cT_0_3 : w3.cell? ⟨w.heap.size, 0, none⟩ = some (.slice pa c.ins.length qa) := KT_3.out.cell 0
    have cT_1_3 : w3.cell? ⟨w.heap.size, 1, none⟩ = some (.slice pb c.outs.length qb) := KT_3.out.cell 1
    have cT_2_3 : w3.cell? ⟨w.heap.size, 2, none⟩ = some (.slice pl c.las.length ql) := KT_3.out.cell 2
    have cT_3_3 : w3.cell? ⟨w.heap.size, 3, none⟩ = some (.slice pg c.gts.length qg) := KT_3.out.cell 3
    go_wp2
    clear lT_3 cT_0_3 cT_1_3 cT_2_3 cT_3_3
    go_loopw [5] (fun i wr => ∃ k : Nat, k ≤ (toldC c).length ∧ i = .int .i64 (k : Int) ∧ Below w3.heap.size w3 wr ∧ Hid (∀ s ∈ (toldC c).take k, noN s = false)) (fun i _ => (toldC c).length - (intOf i).toNat)
    case atStart => exact ⟨0, by omega, rfl, Below.refl _ _, Lib.hid (by simp)⟩
    case round =>
      obtain ⟨k, hk, rfl, hB, hall⟩ := hrel
      clear C_3 LT Qa_0 KT_3 B_3
      have C_ar := Lib.hid (C_a.out.below hB)
      have LT_ar := Lib.hid (LT_a.out.below hB)
      have KT_ar := Lib.hid (KT_a.out.below hB KT_a.out.lt)
      have B_ar := Lib.hid (B_a.out.trans (hB.mono B_a.out.size))
      have Qar := Lib.hid hB
      clear hB
      by_cases hlt : k < (toldC c).length
      · have hlt' : (k : Int) < ((toldC c).length : Int) := by omega
        obtain ⟨g, o, cq, ex, hx, hv, hg, hc⟩ := LT_ar.out.at_ stc_len hlt
        injection hv with hb he hcc
        subst hb hcc
        clear he
        have d0 : wr.cell? ⟨g, o + k, none⟩ = some (.string ex) := by have := hc 0 (by omega); simpa [stc] using this
        have HXX := Lib.hid hx
        have hsz := HS.out ex (List.mem_of_getElem? hx)
        clear hc hx
        obtain ⟨q1, h1⟩ : ∃ q, nameB ex = q := ⟨_, rfl⟩
        have HQ := Lib.hid h1
        clear h1
        go_wp2_with fail
        refine (rname_ex ex q1 _ hsz HQ.out).mono ?_
        rintro e w' ⟨rfl, rfl⟩
        cases q1
        · have HX := checkC_n HE.out Hl.out (find_at hall.out HXX.out (show noN ex = true by unfold noN; rw [HQ.out]; rfl))
          obtain ⟨rfl, rfl⟩ := HX
          clear HE
          clear hall
          go_wp2_with fail
          go_quiet (fail)
          go_wp2
          go_ret2
          exact ⟨rfl, below_drewN B_ar.out _⟩
        · have HNX := Lib.hid (take_next hall.out HXX.out (show noN ex = false by unfold noN; rw [HQ.out]; rfl))
          clear hall d0
          go_wp2
          refine ⟨⟨k + 1, by omega, by go_num, Qar.out, HNX⟩, ?_⟩
          simp [intOf]; omega
      · have hge : ((toldC c).length : Int) ≤ (k : Int) := by omega
        have Hn := Lib.hid (find_none (take_whole hall.out (show (toldC c).length ≤ k by omega)))
        clear hall
        have lT_0 : w.heap.size < wr.heap.size := KT_ar.out.lt
        have cT_0_0 : wr.cell? ⟨w.heap.size, 0, none⟩ = some (.slice pa c.ins.length qa) := KT_ar.out.cell 0
        have cT_1_0 : wr.cell? ⟨w.heap.size, 1, none⟩ = some (.slice pb c.outs.length qb) := KT_ar.out.cell 1
        have cT_2_0 : wr.cell? ⟨w.heap.size, 2, none⟩ = some (.slice pl c.las.length ql) := KT_ar.out.cell 2
        have cT_3_0 : wr.cell? ⟨w.heap.size, 3, none⟩ = some (.slice pg c.gts.length qg) := KT_ar.out.cell 3
        go_wp2_with fail
        clear hge hlt hk htl
        clear lT_0 cT_0_0 cT_1_0 cT_2_0 cT_3_0
        clear LT_ar
        clear Qar
        rename World => x1
        refine (rnets_any c _ _ _ _ _ C_ar.out HF.out).mono ?_
        rintro e x11 ⟨v2, rfl, r2, b1⟩
        have C_1 := Lib.hid (C_ar.out.below b1)
        clear C_ar
        have KT_1 := Lib.hid (KT_ar.out.below b1 KT_ar.out.lt)
        clear KT_ar
        have B_1 := Lib.hid (B_ar.out.trans (b1.mono B_ar.out.size))
        clear B_ar
        clear b1
        have LN := Lib.hid (Lst.of_row r2)
        have NC := Lib.hid (capFine_row r2)
        clear r2
        have lT_1 : w.heap.size < x11.heap.size := KT_1.out.lt
        have cT_0_1 : x11.cell? ⟨w.heap.size, 0, none⟩ = some (.slice pa c.ins.length qa) := KT_1.out.cell 0
        have cT_1_1 : x11.cell? ⟨w.heap.size, 1, none⟩ = some (.slice pb c.outs.length qb) := KT_1.out.cell 1
        have cT_2_1 : x11.cell? ⟨w.heap.size, 2, none⟩ = some (.slice pl c.las.length ql) := KT_1.out.cell 2
        have cT_3_1 : x11.cell? ⟨w.heap.size, 3, none⟩ = some (.slice pg c.gts.length qg) := KT_1.out.cell 3
        go_wp2_with fail
        obtain ⟨q2, h2⟩ : ∃ q, twiceF [] (netsC c) = q := ⟨_, rfl⟩
        have Ht := Lib.hid h2
        clear h2
        clear lT_1 cT_0_1 cT_1_1 cT_2_1 cT_3_1
        refine (rtwice_any (netsC c) _ q2 _ (by omega) LN.out NC.out Ht.out).mono ?_
        rintro e x12 ⟨rfl, b2⟩
        have C_2 := Lib.hid (C_1.out.below b2)
        clear C_1
        have LN_2 := Lib.hid (LN.out.below b2)
        clear LN
        have KT_2 := Lib.hid (KT_1.out.below b2 KT_1.out.lt)
        clear KT_1
        have B_2 := Lib.hid (B_1.out.trans (b2.mono B_1.out.size))
        clear B_1
        clear b2
        rcases q2 with _ | x2
        · simp only [Option.getD_none, Option.isSome_none]
          have lT_2 : w.heap.size < x12.heap.size := KT_2.out.lt
          have cT_0_2 : x12.cell? ⟨w.heap.size, 0, none⟩ = some (.slice pa c.ins.length qa) := KT_2.out.cell 0
          have cT_1_2 : x12.cell? ⟨w.heap.size, 1, none⟩ = some (.slice pb c.outs.length qb) := KT_2.out.cell 1
          have cT_2_2 : x12.cell? ⟨w.heap.size, 2, none⟩ = some (.slice pl c.las.length ql) := KT_2.out.cell 2
          have cT_3_2 : x12.cell? ⟨w.heap.size, 3, none⟩ = some (.slice pg c.gts.length qg) := KT_2.out.cell 3
          go_wp2_with fail
          obtain ⟨q3, h3⟩ : ∃ q, twiceF [] c.outs = q := ⟨_, rfl⟩
          have Ho := Lib.hid h3
          clear h3
          clear lT_2 cT_0_2 cT_1_2 cT_2_2 cT_3_2
          refine (rtwice_any c.outs _ q3 _ (by omega) C_2.out.outs.lst C_2.out.outs.cap Ho.out).mono ?_
          rintro e x13 ⟨rfl, b3⟩
          have C_3 := Lib.hid (C_2.out.below b3)
          clear C_2
          have LN_3 := Lib.hid (LN_2.out.below b3)
          clear LN_2
          have KT_3 := Lib.hid (KT_2.out.below b3 KT_2.out.lt)
          clear KT_2
          have B_3 := Lib.hid (B_2.out.trans (b3.mono B_2.out.size))
          clear B_2
          clear b3
          rcases q3 with _ | x3
          · simp only [Option.getD_none, Option.isSome_none]
            have C_b := C_3
            have LN_b := LN_3
            have KT_b := KT_3
            have B_b := B_3
            have Qb_0 := Lib.hid (Below.refl x13.heap.size x13)
            have lT_3 : w.heap.size < x13.heap.size := KT_3.out.lt
            have cT_0_3 : x13.cell? ⟨w.heap.size, 0, none⟩ = some (.slice pa c.ins.length qa) := KT_3.out.cell 0
            have cT_1_3 : x13.cell? ⟨w.heap.size, 1, none⟩ = some (.slice pb c.outs.length qb) := KT_3.out.cell 1
            have cT_2_3 : x13.cell? ⟨w.heap.size, 2, none⟩ = some (.slice pl c.las.length ql) := KT_3.out.cell 2
            have cT_3_3 : x13.cell? ⟨w.heap.size, 3, none⟩ = some (.slice pg c.gts.length qg) := KT_3.out.cell 3
            go_wp2
            clear lT_3 cT_0_3 cT_1_3 cT_2_3 cT_3_3
            go_loopw [11] (fun i wr => ∃ k : Nat, k ≤ c.las.length ∧ i = .int .i64 (k : Int) ∧ Below x13.heap.size x13 wr ∧ Hid (∀ s ∈ c.las.take k, noL s = false)) (fun i _ => c.las.length - (intOf i).toNat)
            case atStart => exact ⟨0, by omega, rfl, Below.refl _ _, Lib.hid (by simp)⟩
            case round =>
              obtain ⟨k, hk, rfl, hB, hall⟩ := hrel
              clear C_3 LN_3 Qb_0 KT_3 B_3
              have C_br := Lib.hid (C_b.out.below hB)
              have LN_br := Lib.hid (LN_b.out.below hB)
              have KT_br := Lib.hid (KT_b.out.below hB KT_b.out.lt)
              have B_br := Lib.hid (B_b.out.trans (hB.mono B_b.out.size))
              have Qbr := Lib.hid hB
              clear hB
              by_cases hlt : k < c.las.length
              · have hlt' : (k : Int) < (c.las.length : Int) := by omega
                obtain ⟨eg, eo, ec, ex, hx, hv, hg, d0, d1, d2⟩ := C_br.out.las.at_ hlt
                injection hv with e1 e2 e3
                subst e1 e3
                clear e2
                have HXX := Lib.hid hx
                clear hx d1
                by_cases i1 : ex.init < (0 : Int)
                · have Hp := Lib.hid (show partsF c = some (1, ex.name) by unfold partsF; rw [find_at hall.out HXX.out (show noL ex = true by unfold noL initB; simp; omega)])
                  clear hall
                  have HX := checkC_p HE.out Hl.out Hn.out Ht.out Ho.out Hp.out
                  obtain ⟨rfl, rfl⟩ := HX
                  clear HE
                  have lT_0 : w.heap.size < wr.heap.size := KT_br.out.lt
                  have cT_0_0 : wr.cell? ⟨w.heap.size, 0, none⟩ = some (.slice pa c.ins.length qa) := KT_br.out.cell 0
                  have cT_1_0 : wr.cell? ⟨w.heap.size, 1, none⟩ = some (.slice pb c.outs.length qb) := KT_br.out.cell 1
                  have cT_2_0 : wr.cell? ⟨w.heap.size, 2, none⟩ = some (.slice (some ⟨eg, eo, none⟩) c.las.length ql) := KT_br.out.cell 2
                  have cT_3_0 : wr.cell? ⟨w.heap.size, 3, none⟩ = some (.slice pg c.gts.length qg) := KT_br.out.cell 3
                  go_wp2_with fail
                  go_quiet (fail)
                  go_wp2
                  go_ret2
                  exact ⟨rfl, below_drewN B_br.out _⟩
                · have i1' : decide (ex.init < (0 : Int)) = false := decide_eq_false i1
                  by_cases i2 : (2 : Int) < ex.init
                  · have Hp := Lib.hid (show partsF c = some (1, ex.name) by unfold partsF; rw [find_at hall.out HXX.out (show noL ex = true by unfold noL initB; simp; omega)])
                    clear hall
                    have HX := checkC_p HE.out Hl.out Hn.out Ht.out Ho.out Hp.out
                    obtain ⟨rfl, rfl⟩ := HX
                    clear HE
                    have lT_0 : w.heap.size < wr.heap.size := KT_br.out.lt
                    have cT_0_0 : wr.cell? ⟨w.heap.size, 0, none⟩ = some (.slice pa c.ins.length qa) := KT_br.out.cell 0
                    have cT_1_0 : wr.cell? ⟨w.heap.size, 1, none⟩ = some (.slice pb c.outs.length qb) := KT_br.out.cell 1
                    have cT_2_0 : wr.cell? ⟨w.heap.size, 2, none⟩ = some (.slice (some ⟨eg, eo, none⟩) c.las.length ql) := KT_br.out.cell 2
                    have cT_3_0 : wr.cell? ⟨w.heap.size, 3, none⟩ = some (.slice pg c.gts.length qg) := KT_br.out.cell 3
                    go_wp2_with fail
                    go_quiet (fail)
                    go_wp2
                    go_ret2
                    exact ⟨rfl, below_drewN B_br.out _⟩
                  · have i2' : decide ((2 : Int) < ex.init) = false := decide_eq_false i2
                    have HNX := Lib.hid (take_next hall.out HXX.out (show noL ex = false by unfold noL initB; simp; omega))
                    clear hall
                    have lT_0 : w.heap.size < wr.heap.size := KT_br.out.lt
                    have cT_0_0 : wr.cell? ⟨w.heap.size, 0, none⟩ = some (.slice pa c.ins.length qa) := KT_br.out.cell 0
                    have cT_1_0 : wr.cell? ⟨w.heap.size, 1, none⟩ = some (.slice pb c.outs.length qb) := KT_br.out.cell 1
                    have cT_2_0 : wr.cell? ⟨w.heap.size, 2, none⟩ = some (.slice (some ⟨eg, eo, none⟩) c.las.length ql) := KT_br.out.cell 2
                    have cT_3_0 : wr.cell? ⟨w.heap.size, 3, none⟩ = some (.slice pg c.gts.length qg) := KT_br.out.cell 3
                    go_wp2
                    refine ⟨⟨k + 1, by omega, by go_num, Qbr.out, HNX⟩, ?_⟩
                    simp [intOf]; omega
              · have hge : (c.las.length : Int) ≤ (k : Int) := by omega
                have HPL := Lib.hid (find_none (take_whole hall.out (show c.las.length ≤ k by omega)))
                clear hall
                clear Qbr
                rename World => y2
                have C_d := C_br
                have LN_d := LN_br
                have KT_d := KT_br
                have B_d := B_br
                have Qd_0 := Lib.hid (Below.refl y2.heap.size y2)
                have lT_0 : w.heap.size < y2.heap.size := KT_br.out.lt
                have cT_0_0 : y2.cell? ⟨w.heap.size, 0, none⟩ = some (.slice pa c.ins.length qa) := KT_br.out.cell 0
                have cT_1_0 : y2.cell? ⟨w.heap.size, 1, none⟩ = some (.slice pb c.outs.length qb) := KT_br.out.cell 1
                have cT_2_0 : y2.cell? ⟨w.heap.size, 2, none⟩ = some (.slice pl c.las.length ql) := KT_br.out.cell 2
                have cT_3_0 : y2.cell? ⟨w.heap.size, 3, none⟩ = some (.slice pg c.gts.length qg) := KT_br.out.cell 3
                go_wp2
                clear lT_0 cT_0_0 cT_1_0 cT_2_0 cT_3_0
                go_loopw [12] (fun i wr => ∃ k : Nat, k ≤ c.gts.length ∧ i = .int .i64 (k : Int) ∧ Below y2.heap.size y2 wr ∧ Hid (∀ s ∈ c.gts.take k, noG s = false)) (fun i _ => c.gts.length - (intOf i).toNat)
                case atStart => exact ⟨0, by omega, rfl, Below.refl _ _, Lib.hid (by simp)⟩
                case round =>
                  obtain ⟨k, hk, rfl, hB, hall⟩ := hrel
                  clear C_br LN_br Qd_0 KT_br B_br
                  have C_dr := Lib.hid (C_d.out.below hB)
                  have LN_dr := Lib.hid (LN_d.out.below hB)
                  have KT_dr := Lib.hid (KT_d.out.below hB KT_d.out.lt)
                  have B_dr := Lib.hid (B_d.out.trans (hB.mono B_d.out.size))
                  have Qdr := Lib.hid hB
                  clear hB
                  by_cases hlt : k < c.gts.length
                  · have hlt' : (k : Int) < (c.gts.length : Int) := by omega
                    obtain ⟨eg, eo, ec, ex, er, hx, ha, hv, hg, d0, d1, d2, d3, d4⟩ := C_dr.out.gts.at_ hlt
                    have HA := Lib.hid ha.ins
                    have HR := Lib.hid ha.rows
                    obtain ⟨pi, qi, ei⟩ := ha.ins.lst.slice
                    obtain ⟨pr, qr, er'⟩ := ha.rows.lst.slice
                    rw [ei] at d2 HA
                    rw [er'] at d3 HR
                    clear ha ei er'
                    injection hv with e1 e2 e3
                    subst e1 e3
                    clear e2
                    have HXX := Lib.hid hx
                    have D0 := Lib.hid d0
                    clear hx
                    have lT_0 : w.heap.size < wr.heap.size := KT_dr.out.lt
                    have cT_0_0 : wr.cell? ⟨w.heap.size, 0, none⟩ = some (.slice pa c.ins.length qa) := KT_dr.out.cell 0
                    have cT_1_0 : wr.cell? ⟨w.heap.size, 1, none⟩ = some (.slice pb c.outs.length qb) := KT_dr.out.cell 1
                    have cT_2_0 : wr.cell? ⟨w.heap.size, 2, none⟩ = some (.slice pl c.las.length ql) := KT_dr.out.cell 2
                    have cT_3_0 : wr.cell? ⟨w.heap.size, 3, none⟩ = some (.slice (some ⟨eg, eo, none⟩) c.gts.length qg) := KT_dr.out.cell 3
                    go_wp2_with fail
                    clear d0 d1 d2 d3 d4
                    have W0 := Lib.hid (Below.refl wr.heap.size wr)
                    obtain ⟨q4, h4⟩ : ∃ q, gateB ex = q := ⟨_, rfl⟩
                    have HQ := Lib.hid h4
                    clear h4
                    clear lT_0 cT_0_0 cT_1_0 cT_2_0 cT_3_0
                    refine (rgate_ex ex _ _ q4 _ HA.out HR.out (HG.out ex (List.mem_of_getElem? HXX.out)) (HZ.out ex (List.mem_of_getElem? HXX.out)) HQ.out).mono ?_
                    rintro e wr1 ⟨rfl, b1⟩
                    have C_1 := Lib.hid (C_dr.out.below b1)
                    clear C_dr
                    have LN_1 := Lib.hid (LN_dr.out.below b1)
                    clear LN_dr
                    have Qd_1 := Lib.hid (Qdr.out.trans (b1.mono Qdr.out.size))
                    clear Qdr
                    have I_1 := Lib.hid (HA.out.below b1)
                    clear HA
                    have R_1 := Lib.hid (HR.out.below b1)
                    clear HR
                    have W0_1 := Lib.hid (W0.out.trans (b1.mono W0.out.size))
                    clear W0
                    have D0_1 := Lib.hid ((b1.cell (p := ⟨eg, eo + k * 5, none⟩) hg).trans D0.out)
                    clear D0
                    have KT_1 := Lib.hid (KT_dr.out.below b1 KT_dr.out.lt)
                    clear KT_dr
                    have B_1 := Lib.hid (B_dr.out.trans (b1.mono B_dr.out.size))
                    clear B_dr
                    clear b1
                    cases q4
                    · have Hp := Lib.hid (show partsF c = some (1, ex.name) by unfold partsF partsG; rw [HPL.out, find_at hall.out HXX.out (show noG ex = true by unfold noG; rw [HQ.out]; rfl)])
                      clear hall
                      have HX := checkC_p HE.out Hl.out Hn.out Ht.out Ho.out Hp.out
                      obtain ⟨rfl, rfl⟩ := HX
                      clear HE
                      have lT_1 : w.heap.size < wr1.heap.size := KT_1.out.lt
                      have cT_0_1 : wr1.cell? ⟨w.heap.size, 0, none⟩ = some (.slice pa c.ins.length qa) := KT_1.out.cell 0
                      have cT_1_1 : wr1.cell? ⟨w.heap.size, 1, none⟩ = some (.slice pb c.outs.length qb) := KT_1.out.cell 1
                      have cT_2_1 : wr1.cell? ⟨w.heap.size, 2, none⟩ = some (.slice pl c.las.length ql) := KT_1.out.cell 2
                      have cT_3_1 : wr1.cell? ⟨w.heap.size, 3, none⟩ = some (.slice (some ⟨eg, eo, none⟩) c.gts.length qg) := KT_1.out.cell 3
                      have d0 := D0_1.out
                      have hg2 : eg < wr1.heap.size := Nat.lt_of_lt_of_le hg W0_1.out.size
                      go_wp2_with fail
                      go_quiet (fail)
                      go_wp2
                      go_ret2
                      exact ⟨rfl, below_drewN B_1.out _⟩
                    · have HNX := Lib.hid (take_next hall.out HXX.out (show noG ex = false by unfold noG; rw [HQ.out]; rfl))
                      clear hall
                      go_wp2
                      refine ⟨⟨k + 1, by omega, by go_num, Qd_1.out, HNX⟩, ?_⟩
                      simp [intOf]; omega
                  · have hge : (c.gts.length : Int) ≤ (k : Int) := by omega
                    have Hp := Lib.hid (show partsF c = none by unfold partsF partsG; rw [HPL.out, find_none (take_whole hall.out (show c.gts.length ≤ k by omega))])
                    clear hall
                    have lT_0 : w.heap.size < wr.heap.size := KT_dr.out.lt
                    have cT_0_0 : wr.cell? ⟨w.heap.size, 0, none⟩ = some (.slice pa c.ins.length qa) := KT_dr.out.cell 0
                    have cT_1_0 : wr.cell? ⟨w.heap.size, 1, none⟩ = some (.slice pb c.outs.length qb) := KT_dr.out.cell 1
                    have cT_2_0 : wr.cell? ⟨w.heap.size, 2, none⟩ = some (.slice pl c.las.length ql) := KT_dr.out.cell 2
                    have cT_3_0 : wr.cell? ⟨w.heap.size, 3, none⟩ = some (.slice pg c.gts.length qg) := KT_dr.out.cell 3
                    go_wp2_with fail
                    clear hge hlt hk
                    clear lT_0 cT_0_0 cT_1_0 cT_2_0 cT_3_0
                    clear Qdr
                    rename World => y3
                    refine (used_any c _ _ _ _ _ C_dr.out HF.out HG.out).mono ?_
                    rintro e y31 ⟨v3, rfl, r3, b1⟩
                    have C_1 := Lib.hid (C_dr.out.below b1)
                    clear C_dr
                    have LN_1 := Lib.hid (LN_dr.out.below b1)
                    clear LN_dr
                    have KT_1 := Lib.hid (KT_dr.out.below b1 KT_dr.out.lt)
                    clear KT_dr
                    have B_1 := Lib.hid (B_dr.out.trans (b1.mono B_dr.out.size))
                    clear B_dr
                    clear b1
                    have LU := Lib.hid (Lst.of_row r3)
                    obtain ⟨ub, uc, rfl⟩ := row_slice r3
                    clear r3
                    have hul := HUL.out
                    have C_u := C_1
                    have LN_u := LN_1
                    have LU_u := LU
                    have KT_u := KT_1
                    have B_u := B_1
                    have Qu_0 := Lib.hid (Below.refl y31.heap.size y31)
                    have lT_1 : w.heap.size < y31.heap.size := KT_1.out.lt
                    have cT_0_1 : y31.cell? ⟨w.heap.size, 0, none⟩ = some (.slice pa c.ins.length qa) := KT_1.out.cell 0
                    have cT_1_1 : y31.cell? ⟨w.heap.size, 1, none⟩ = some (.slice pb c.outs.length qb) := KT_1.out.cell 1
                    have cT_2_1 : y31.cell? ⟨w.heap.size, 2, none⟩ = some (.slice pl c.las.length ql) := KT_1.out.cell 2
                    have cT_3_1 : y31.cell? ⟨w.heap.size, 3, none⟩ = some (.slice pg c.gts.length qg) := KT_1.out.cell 3
                    go_wp2
                    clear lT_1 cT_0_1 cT_1_1 cT_2_1 cT_3_1
                    go_loopw [14] (fun i wr => ∃ k : Nat, k ≤ (usedC c).length ∧ i = .int .i64 (k : Int) ∧ Below y31.heap.size y31 wr ∧ Hid (∀ s ∈ (usedC c).take k, noT c s = false)) (fun i _ => (usedC c).length - (intOf i).toNat)
                    case atStart => exact ⟨0, by omega, rfl, Below.refl _ _, Lib.hid (by simp)⟩
                    case round =>
                      obtain ⟨k, hk, rfl, hB, hall⟩ := hrel
                      clear C_1 LN_1 LU Qu_0 KT_1 B_1
                      have C_ur := Lib.hid (C_u.out.below hB)
                      have LN_ur := Lib.hid (LN_u.out.below hB)
                      have LU_ur := Lib.hid (LU_u.out.below hB)
                      have KT_ur := Lib.hid (KT_u.out.below hB KT_u.out.lt)
                      have B_ur := Lib.hid (B_u.out.trans (hB.mono B_u.out.size))
                      have Qur := Lib.hid hB
                      clear hB
                      by_cases hlt : k < (usedC c).length
                      · have hlt' : (k : Int) < ((usedC c).length : Int) := by omega
                        obtain ⟨g, o, cq, ex, hx, hv, hg, hc⟩ := LU_ur.out.at_ stc_len hlt
                        injection hv with hb he hcc
                        subst hb hcc
                        clear he
                        have d0 : wr.cell? ⟨g, o + k, none⟩ = some (.string ex) := by have := hc 0 (by omega); simpa [stc] using this
                        have HXX := Lib.hid hx
                        clear hc hx
                        obtain ⟨q1, h1⟩ : ∃ q, usedB (netsC c) ex = q := ⟨_, rfl⟩
                        have HQ := Lib.hid h1
                        clear h1
                        go_wp2_with fail
                        refine (has_ex (netsC c) _ ex q1 _ (by omega) LN_ur.out HQ.out).mono ?_
                        rintro e w' ⟨rfl, rfl⟩
                        cases q1
                        · have HX := checkC_u HE.out Hl.out Hn.out Ht.out Ho.out Hp.out (find_at hall.out HXX.out (show noT c ex = true by unfold noT; rw [HQ.out]; rfl))
                          obtain ⟨rfl, rfl⟩ := HX
                          clear HE
                          clear hall
                          go_wp2_with fail
                          go_quiet (fail)
                          go_wp2
                          go_ret2
                          exact ⟨rfl, below_drewN B_ur.out _⟩
                        · have HNX := Lib.hid (take_next hall.out HXX.out (show noT c ex = false by unfold noT; rw [HQ.out]; rfl))
                          clear hall d0
                          go_wp2
                          refine ⟨⟨k + 1, by omega, by go_num, Qur.out, HNX⟩, ?_⟩
                          simp [intOf]; omega
                      · have hge : ((usedC c).length : Int) ≤ (k : Int) := by omega
                        have Hu := Lib.hid (find_none (take_whole hall.out (show (usedC c).length ≤ k by omega)))
                        clear hall
                        have HX := checkC_ok HE.out Hl.out Hn.out Ht.out Ho.out Hp.out Hu.out
                        obtain ⟨rfl, rfl⟩ := HX
                        clear HE
                        go_wp2
                        go_ret2
                        exact ⟨rfl, B_ur.out⟩
          · simp only [Option.getD_some, Option.isSome_some]
            have HX := checkC_o HE.out Hl.out Hn.out Ht.out Ho.out
            obtain ⟨rfl, rfl⟩ := HX
            clear HE
            have lT_3 : w.heap.size < x13.heap.size := KT_3.out.lt
            have cT_0_3 : x13.cell? ⟨w.heap.size, 0, none⟩ = some (.slice pa c.ins.length qa) := KT_3.out.cell 0
            have cT_1_3 : x13.cell? ⟨w.heap.size, 1, none⟩ = some (.slice pb c.outs.length qb) := KT_3.out.cell 1
            have cT_2_3 : x13.cell? ⟨w.heap.size, 2, none⟩ = some (.slice pl c.las.length ql) := KT_3.out.cell 2
            have cT_3_3 : x13.cell? ⟨w.heap.size, 3, none⟩ = some (.slice pg c.gts.length qg) := KT_3.out.cell 3
            go_wp2
            go_ret2
            exact ⟨rfl, B_3.out⟩
        · simp only [Option.getD_some, Option.isSome_some]
          have HX := checkC_t HE.out Hl.out Hn.out Ht.out
          obtain ⟨rfl, rfl⟩ := HX
          clear HE
          have lT_2 : w.heap.size < x12.heap.size := KT_2.out.lt
          have cT_0_2 : x12.cell? ⟨w.heap.size, 0, none⟩ = some (.slice pa c.ins.length qa) := KT_2.out.cell 0
          have cT_1_2 : x12.cell? ⟨w.heap.size, 1, none⟩ = some (.slice pb c.outs.length qb) := KT_2.out.cell 1
          have cT_2_2 : x12.cell? ⟨w.heap.size, 2, none⟩ = some (.slice pl c.las.length ql) := KT_2.out.cell 2
          have cT_3_2 : x12.cell? ⟨w.heap.size, 3, none⟩ = some (.slice pg c.gts.length qg) := KT_2.out.cell 3
          go_wp2
          go_ret2
          exact ⟨rfl, B_2.out⟩
  · have HX := checkC_l HE.out Hl.out
    obtain ⟨rfl, rfl⟩ := HX
    clear HE
    have lT_2 : w.heap.size < w2.heap.size := KT_2.out.lt
    have cT_0_2 : w2.cell? ⟨w.heap.size, 0, none⟩ = some (.slice pa c.ins.length qa) := KT_2.out.cell 0
    have cT_1_2 : w2.cell? ⟨w.heap.size, 1, none⟩ = some (.slice pb c.outs.length qb) := KT_2.out.cell 1
    have cT_2_2 : w2.cell? ⟨w.heap.size, 2, none⟩ = some (.slice pl c.las.length ql) := KT_2.out.cell 2
    have cT_3_2 : w2.cell? ⟨w.heap.size, 3, none⟩ = some (.slice pg c.gts.length qg) := KT_2.out.cell 3
    go_wp2
    go_ret2
    exact ⟨rfl, B_2.out⟩
end Go.Proofs.YtfkmolbcgnkfdaaDoor

/- Is a netlist so small that it is looked at. -/
namespace Go.Proofs.YtfkmolbcgnkfdaaDoor
open Go.RowKit
attribute [local go_sem] Oper.semAt_some
set_option maxRecDepth 100000
set_option maxHeartbeats 1000000
def fewgB (g : Gt) : Bool := fewB g.ins 12 && (fewB g.rows 140 && decide (g.name.size ≤ 60))
def fewlB (l : La) : Bool := decide (l.name.size ≤ 60) && decide (l.next.size ≤ 60)
def fewcB (c : Ci) : Bool := (c.gts.take 211).all fewgB && ((c.las.take 211).all fewlB && (fewB c.ins 210 && (fewB c.outs 210 && (decide (c.gts.length ≤ 210) && decide (c.las.length ≤ 210)))))
theorem few_ex (l : List ByteArray) (v : Value) (m : Nat) (z : Int) (q : Bool) (w : World) (hz : z = (m : Int)) (hm : m ≤ 1000) (ht : Lst stc w v l) (hq : fewB l m = q) : Calls Tryd.prog 38 #[v, .int .i64 z] w fun e w' => e = .returned (.bool q) ∧ w = w' := by
  subst hq hz
  exact few_any l v m w hm ht
theorem fewg_any (g : Gt) (vi vr : Value) (q : Bool) (w : World) (hi : Inn w vi g.ins) (hr : Inn w vr g.rows) (hq : fewgB g = q) :
    Calls Tryd.prog 24 #[.agg #[.string g.name, .int .i64 g.op, vi, vr, .bool g.off]] w fun e w' => e = .returned (.bool q) ∧ Below w.heap.size w w' := by
  have HI := Lib.hid hi
  have HR := Lib.hid hr
  obtain ⟨pi, qi, rfl⟩ := hi.lst.slice
  obtain ⟨pr, qr, rfl⟩ := hr.lst.slice
  obtain ⟨q1, h1⟩ : ∃ q, fewB g.ins 12 = q := ⟨_, rfl⟩
  obtain ⟨q2, h2⟩ : ∃ q, fewB g.rows 140 = q := ⟨_, rfl⟩
  have H1 := Lib.hid h1
  have H2 := Lib.hid h2
  unfold fewgB at hq
  rw [h1, h2] at hq
  have HQ := Lib.hid hq
  clear hi hr h1 h2 hq
  go_enter Tryd.func24, Tryd.ntmps24
  go_wp2_with fail
  have a1 : Below w.heap.size w (w.alloc (.cells #[.string g.name, .int .i64 g.op, .slice pi g.ins.length qi, .slice pr g.rows.length qr, .bool g.off] 39)) := ((Below.refl w.heap.size w).alloc (by first | exact Nat.le_refl _ | (simp only [World.size_alloc]; omega)) (.cells #[.string g.name, .int .i64 g.op, .slice pi g.ins.length qi, .slice pr g.rows.length qr, .bool g.off] 39))
  have G_new0 := (Blk.new w #[.string g.name, .int .i64 g.op, .slice pi g.ins.length qi, .slice pr g.rows.length qr, .bool g.off] 39)
  have KG_00 := Lib.hid G_new0
  clear G_new0
  have I_1 := Lib.hid (HI.out.below a1)
  clear HI
  have R_1 := Lib.hid (HR.out.below a1)
  clear HR
  have B_1 := Lib.hid a1
  clear a1
  generalize (w.alloc (.cells #[.string g.name, .int .i64 g.op, .slice pi g.ins.length qi, .slice pr g.rows.length qr, .bool g.off] 39)) = w1 at I_1 R_1 KG_00 B_1 ⊢
  have lG_1 : w.heap.size < w1.heap.size := KG_00.out.lt
  have cG_0_1 : w1.cell? ⟨w.heap.size, 0, none⟩ = some (.string g.name) := KG_00.out.cell 0
  have cG_1_1 : w1.cell? ⟨w.heap.size, 1, none⟩ = some (.int .i64 g.op) := KG_00.out.cell 1
  have cG_2_1 : w1.cell? ⟨w.heap.size, 2, none⟩ = some (.slice pi g.ins.length qi) := KG_00.out.cell 2
  have cG_3_1 : w1.cell? ⟨w.heap.size, 3, none⟩ = some (.slice pr g.rows.length qr) := KG_00.out.cell 3
  have cG_4_1 : w1.cell? ⟨w.heap.size, 4, none⟩ = some (.bool g.off) := KG_00.out.cell 4
  go_wp2_with fail
  clear lG_1 cG_0_1 cG_1_1 cG_2_1 cG_3_1 cG_4_1
  refine (few_ex g.ins _ 12 _ q1 _ rfl (by decide) I_1.out.lst H1.out).mono ?_
  rintro e w' ⟨rfl, rfl⟩
  have lG_1 : w.heap.size < w1.heap.size := KG_00.out.lt
  have cG_0_1 : w1.cell? ⟨w.heap.size, 0, none⟩ = some (.string g.name) := KG_00.out.cell 0
  have cG_1_1 : w1.cell? ⟨w.heap.size, 1, none⟩ = some (.int .i64 g.op) := KG_00.out.cell 1
  have cG_2_1 : w1.cell? ⟨w.heap.size, 2, none⟩ = some (.slice pi g.ins.length qi) := KG_00.out.cell 2
  have cG_3_1 : w1.cell? ⟨w.heap.size, 3, none⟩ = some (.slice pr g.rows.length qr) := KG_00.out.cell 3
  have cG_4_1 : w1.cell? ⟨w.heap.size, 4, none⟩ = some (.bool g.off) := KG_00.out.cell 4
  go_wp2_with fail
  clear lG_1 cG_0_1 cG_1_1 cG_2_1 cG_3_1 cG_4_1
  refine (few_ex g.rows _ 140 _ q2 _ rfl (by decide) R_1.out.lst H2.out).mono ?_
  rintro e w' ⟨rfl, rfl⟩
  cases q1
  · obtain rfl : q = false := by
      have := HQ.out
      exact this.symm
    clear HQ
    have lG_1 : w.heap.size < w1.heap.size := KG_00.out.lt
    have cG_0_1 : w1.cell? ⟨w.heap.size, 0, none⟩ = some (.string g.name) := KG_00.out.cell 0
    have cG_1_1 : w1.cell? ⟨w.heap.size, 1, none⟩ = some (.int .i64 g.op) := KG_00.out.cell 1
    have cG_2_1 : w1.cell? ⟨w.heap.size, 2, none⟩ = some (.slice pi g.ins.length qi) := KG_00.out.cell 2
    have cG_3_1 : w1.cell? ⟨w.heap.size, 3, none⟩ = some (.slice pr g.rows.length qr) := KG_00.out.cell 3
    have cG_4_1 : w1.cell? ⟨w.heap.size, 4, none⟩ = some (.bool g.off) := KG_00.out.cell 4
    go_wp2
    go_ret
    exact ⟨rfl, B_1.out⟩
  · cases q2
    · obtain rfl : q = false := by
        have := HQ.out
        exact this.symm
      clear HQ
      have lG_1 : w.heap.size < w1.heap.size := KG_00.out.lt
      have cG_0_1 : w1.cell? ⟨w.heap.size, 0, none⟩ = some (.string g.name) := KG_00.out.cell 0
      have cG_1_1 : w1.cell? ⟨w.heap.size, 1, none⟩ = some (.int .i64 g.op) := KG_00.out.cell 1
      have cG_2_1 : w1.cell? ⟨w.heap.size, 2, none⟩ = some (.slice pi g.ins.length qi) := KG_00.out.cell 2
      have cG_3_1 : w1.cell? ⟨w.heap.size, 3, none⟩ = some (.slice pr g.rows.length qr) := KG_00.out.cell 3
      have cG_4_1 : w1.cell? ⟨w.heap.size, 4, none⟩ = some (.bool g.off) := KG_00.out.cell 4
      go_wp2
      go_ret
      exact ⟨rfl, B_1.out⟩
    · by_cases hn : g.name.size ≤ 60
      · have hn' : (g.name.size : Int) ≤ 60 := by omega
        obtain rfl : q = true := by
          have := HQ.out
          simpa [hn] using this.symm
        clear HQ
        have lG_1 : w.heap.size < w1.heap.size := KG_00.out.lt
        have cG_0_1 : w1.cell? ⟨w.heap.size, 0, none⟩ = some (.string g.name) := KG_00.out.cell 0
        have cG_1_1 : w1.cell? ⟨w.heap.size, 1, none⟩ = some (.int .i64 g.op) := KG_00.out.cell 1
        have cG_2_1 : w1.cell? ⟨w.heap.size, 2, none⟩ = some (.slice pi g.ins.length qi) := KG_00.out.cell 2
        have cG_3_1 : w1.cell? ⟨w.heap.size, 3, none⟩ = some (.slice pr g.rows.length qr) := KG_00.out.cell 3
        have cG_4_1 : w1.cell? ⟨w.heap.size, 4, none⟩ = some (.bool g.off) := KG_00.out.cell 4
        go_wp2
        go_ret
        exact ⟨rfl, B_1.out⟩
      · have hn' : decide ((g.name.size : Int) ≤ 60) = false := decide_eq_false (by omega)
        obtain rfl : q = false := by
          have := HQ.out
          simpa [hn] using this.symm
        clear HQ
        have lG_1 : w.heap.size < w1.heap.size := KG_00.out.lt
        have cG_0_1 : w1.cell? ⟨w.heap.size, 0, none⟩ = some (.string g.name) := KG_00.out.cell 0
        have cG_1_1 : w1.cell? ⟨w.heap.size, 1, none⟩ = some (.int .i64 g.op) := KG_00.out.cell 1
        have cG_2_1 : w1.cell? ⟨w.heap.size, 2, none⟩ = some (.slice pi g.ins.length qi) := KG_00.out.cell 2
        have cG_3_1 : w1.cell? ⟨w.heap.size, 3, none⟩ = some (.slice pr g.rows.length qr) := KG_00.out.cell 3
        have cG_4_1 : w1.cell? ⟨w.heap.size, 4, none⟩ = some (.bool g.off) := KG_00.out.cell 4
        go_wp2
        go_ret
        exact ⟨rfl, B_1.out⟩
theorem all_bad {α : Type} {p : α → Bool} {l : List α} {k n : Nat} {x : α} (hx : l[k]? = some x) (hk : k < n) (hp : p x = false) : (l.take n).all p = false := by
  rw [List.all_eq_false]
  refine ⟨x, List.mem_of_getElem? (i := k) (by rw [List.getElem?_take_of_lt hk, hx]), by rw [hp]; decide⟩
theorem take_yes_next {α : Type} {p : α → Bool} {l : List α} {k : Nat} {x : α} (h : ∀ s ∈ l.take k, p s = true) (hx : l[k]? = some x) (hp : p x = true) : ∀ s ∈ l.take (k + 1), p s = true := by
  intro s hs
  rw [List.take_add_one, hx] at hs
  rcases List.mem_append.1 hs with h1 | h1
  · exact h s h1
  · simp at h1
    rw [h1]
    exact hp
theorem take_all_yes {α : Type} {p : α → Bool} {l : List α} {k n : Nat} (h : ∀ s ∈ l.take k, p s = true) (hk : l.length ≤ k ∨ n ≤ k) : (l.take n).all p = true := by
  rw [List.all_eq_true]
  intro s hs
  refine h s ?_
  rcases hk with h1 | h1
  · rw [List.take_of_length_le h1]
    exact List.mem_of_mem_take hs
  · exact (List.take_subset_take_left l h1) hs
theorem fewc_any (c : Ci) (a b l g : Value) (q : Bool) (w : World) (h : Cir w a b l g c) (hq : fewcB c = q) :
    Calls Tryd.prog 14 #[.agg #[a, b, l, g]] w fun e w' => e = .returned (.bool q) ∧ Below w.heap.size w w' := by
  have H := Lib.hid h
  obtain ⟨pa, qa, pb, qb, pl, ql, pg, qg, rfl, rfl, rfl, rfl⟩ := h.slices
  have HE := Lib.hid hq
  clear h hq
  go_enter Tryd.func14, Tryd.ntmps14
  go_wp2_with fail
  have a1 : Below w.heap.size w (w.alloc (.cells #[.slice pa c.ins.length qa, .slice pb c.outs.length qb, .slice pl c.las.length ql, .slice pg c.gts.length qg] 26)) := ((Below.refl w.heap.size w).alloc (by first | exact Nat.le_refl _ | (simp only [World.size_alloc]; omega)) (.cells #[.slice pa c.ins.length qa, .slice pb c.outs.length qb, .slice pl c.las.length ql, .slice pg c.gts.length qg] 26))
  have T_new0 := (Blk.new w #[.slice pa c.ins.length qa, .slice pb c.outs.length qb, .slice pl c.las.length ql, .slice pg c.gts.length qg] 26)
  have KT_00 := Lib.hid T_new0
  clear T_new0
  have C_1 := Lib.hid (H.out.below a1)
  clear H
  have B_1 := Lib.hid a1
  clear a1
  generalize (w.alloc (.cells #[.slice pa c.ins.length qa, .slice pb c.outs.length qb, .slice pl c.las.length ql, .slice pg c.gts.length qg] 26)) = w1 at C_1 KT_00 B_1 ⊢
  have C_a := C_1
  have KT_a := KT_00
  have B_a := B_1
  have Qa_0 := Lib.hid (Below.refl w1.heap.size w1)
  have lT_1 : w.heap.size < w1.heap.size := KT_00.out.lt
  have cT_0_1 : w1.cell? ⟨w.heap.size, 0, none⟩ = some (.slice pa c.ins.length qa) := KT_00.out.cell 0
  have cT_1_1 : w1.cell? ⟨w.heap.size, 1, none⟩ = some (.slice pb c.outs.length qb) := KT_00.out.cell 1
  have cT_2_1 : w1.cell? ⟨w.heap.size, 2, none⟩ = some (.slice pl c.las.length ql) := KT_00.out.cell 2
  have cT_3_1 : w1.cell? ⟨w.heap.size, 3, none⟩ = some (.slice pg c.gts.length qg) := KT_00.out.cell 3
  go_wp2
  clear lT_1 cT_0_1 cT_1_1 cT_2_1 cT_3_1
  go_loopw [3] (fun i wr => ∃ k : Nat, k ≤ c.gts.length ∧ k ≤ 211 ∧ i = .int .i64 (k : Int) ∧ Below w1.heap.size w1 wr ∧ Hid (∀ s ∈ c.gts.take k, fewgB s = true)) (fun i _ => c.gts.length - (intOf i).toNat)
  case atStart => exact ⟨0, by omega, by omega, rfl, Below.refl _ _, Lib.hid (by simp)⟩
  case round =>
    obtain ⟨k, hk, hk2, rfl, hB, hall⟩ := hrel
    clear C_1 Qa_0 KT_00 B_1
    have C_ar := Lib.hid (C_a.out.below hB)
    have KT_ar := Lib.hid (KT_a.out.below hB KT_a.out.lt)
    have B_ar := Lib.hid (B_a.out.trans (hB.mono B_a.out.size))
    have Qar := Lib.hid hB
    clear hB
    by_cases hlt : k < c.gts.length ∧ k ≤ 210
    · obtain ⟨hl1, hl2⟩ := hlt
      have hlt' : (k : Int) < (c.gts.length : Int) := by omega
      have hl2' : (k : Int) ≤ 210 := by omega
      obtain ⟨eg, eo, ec, ex, er, hx, ha, hv, hg, d0, d1, d2, d3, d4⟩ := C_ar.out.gts.at_ hl1
      have HA := Lib.hid ha.ins
      have HR := Lib.hid ha.rows
      obtain ⟨pi, qi, ei⟩ := ha.ins.lst.slice
      obtain ⟨pr, qr, er'⟩ := ha.rows.lst.slice
      rw [ei] at d2 HA
      rw [er'] at d3 HR
      clear ha ei er'
      injection hv with e1 e2 e3
      subst e1 e3
      clear e2
      have HXX := Lib.hid hx
      clear hx
      obtain ⟨q4, h4⟩ : ∃ q, fewgB ex = q := ⟨_, rfl⟩
      have HQ := Lib.hid h4
      clear h4
      have lT_0 : w.heap.size < wr.heap.size := KT_ar.out.lt
      have cT_0_0 : wr.cell? ⟨w.heap.size, 0, none⟩ = some (.slice pa c.ins.length qa) := KT_ar.out.cell 0
      have cT_1_0 : wr.cell? ⟨w.heap.size, 1, none⟩ = some (.slice pb c.outs.length qb) := KT_ar.out.cell 1
      have cT_2_0 : wr.cell? ⟨w.heap.size, 2, none⟩ = some (.slice pl c.las.length ql) := KT_ar.out.cell 2
      have cT_3_0 : wr.cell? ⟨w.heap.size, 3, none⟩ = some (.slice (some ⟨eg, eo, none⟩) c.gts.length qg) := KT_ar.out.cell 3
      go_wp2_with fail
      clear d0 d1 d2 d3 d4
      clear lT_0 cT_0_0 cT_1_0 cT_2_0 cT_3_0
      refine (fewg_any ex _ _ q4 _ HA.out HR.out HQ.out).mono ?_
      rintro e wr1 ⟨rfl, b1⟩
      have C_1 := Lib.hid (C_ar.out.below b1)
      clear C_ar
      have Qa_1 := Lib.hid (Qar.out.trans (b1.mono Qar.out.size))
      clear Qar
      have I_1 := Lib.hid (HA.out.below b1)
      clear HA
      have R_1 := Lib.hid (HR.out.below b1)
      clear HR
      have KT_1 := Lib.hid (KT_ar.out.below b1 KT_ar.out.lt)
      clear KT_ar
      have B_1 := Lib.hid (B_ar.out.trans (b1.mono B_ar.out.size))
      clear B_ar
      clear b1
      cases q4
      · obtain rfl : q = false := by
          rw [← HE.out]
          unfold fewcB
          rw [all_bad HXX.out (by omega) HQ.out]; rfl
        clear HE
        have lT_1 : w.heap.size < wr1.heap.size := KT_1.out.lt
        have cT_0_1 : wr1.cell? ⟨w.heap.size, 0, none⟩ = some (.slice pa c.ins.length qa) := KT_1.out.cell 0
        have cT_1_1 : wr1.cell? ⟨w.heap.size, 1, none⟩ = some (.slice pb c.outs.length qb) := KT_1.out.cell 1
        have cT_2_1 : wr1.cell? ⟨w.heap.size, 2, none⟩ = some (.slice pl c.las.length ql) := KT_1.out.cell 2
        have cT_3_1 : wr1.cell? ⟨w.heap.size, 3, none⟩ = some (.slice (some ⟨eg, eo, none⟩) c.gts.length qg) := KT_1.out.cell 3
        go_wp2
        go_ret
        exact ⟨rfl, B_1.out⟩
      · have HNX := Lib.hid (take_yes_next hall.out HXX.out HQ.out)
        clear hall
        go_wp2
        refine ⟨⟨k + 1, by omega, by omega, by go_num, Qa_1.out, HNX⟩, ?_⟩
        simp [intOf]; omega
    · have HA1 := Lib.hid (take_all_yes (n := 211) hall.out (show c.gts.length ≤ k ∨ 211 ≤ k by omega))
      clear hall
      have hge : ¬ (k : Int) < (c.gts.length : Int) ∨ ¬ (k : Int) ≤ 210 := by omega
      by_cases hc1 : (k : Int) < (c.gts.length : Int)
      · have hc2 : decide ((k : Int) ≤ 210) = false := decide_eq_false (by omega)
        have lT_0 : w.heap.size < wr.heap.size := KT_ar.out.lt
        have cT_0_0 : wr.cell? ⟨w.heap.size, 0, none⟩ = some (.slice pa c.ins.length qa) := KT_ar.out.cell 0
        have cT_1_0 : wr.cell? ⟨w.heap.size, 1, none⟩ = some (.slice pb c.outs.length qb) := KT_ar.out.cell 1
        have cT_2_0 : wr.cell? ⟨w.heap.size, 2, none⟩ = some (.slice pl c.las.length ql) := KT_ar.out.cell 2
        have cT_3_0 : wr.cell? ⟨w.heap.size, 3, none⟩ = some (.slice pg c.gts.length qg) := KT_ar.out.cell 3
        clear Qar
        rename World => y2
        clear lT_0 cT_0_0 cT_1_0 cT_2_0 cT_3_0
        have C_b := C_ar
        have KT_b := KT_ar
        have B_b := B_ar
        have Qb_0 := Lib.hid (Below.refl y2.heap.size y2)
        have lT_0 : w.heap.size < y2.heap.size := KT_ar.out.lt
        have cT_0_0 : y2.cell? ⟨w.heap.size, 0, none⟩ = some (.slice pa c.ins.length qa) := KT_ar.out.cell 0
        have cT_1_0 : y2.cell? ⟨w.heap.size, 1, none⟩ = some (.slice pb c.outs.length qb) := KT_ar.out.cell 1
        have cT_2_0 : y2.cell? ⟨w.heap.size, 2, none⟩ = some (.slice pl c.las.length ql) := KT_ar.out.cell 2
        have cT_3_0 : y2.cell? ⟨w.heap.size, 3, none⟩ = some (.slice pg c.gts.length qg) := KT_ar.out.cell 3
        go_wp2
        clear lT_0 cT_0_0 cT_1_0 cT_2_0 cT_3_0
        go_loopw [5] (fun i wr => ∃ k : Nat, k ≤ c.las.length ∧ k ≤ 211 ∧ i = .int .i64 (k : Int) ∧ Below y2.heap.size y2 wr ∧ Hid (∀ s ∈ c.las.take k, fewlB s = true)) (fun i _ => c.las.length - (intOf i).toNat)
        case atStart => exact ⟨0, by omega, by omega, rfl, Below.refl _ _, Lib.hid (by simp)⟩
        case round =>
          obtain ⟨k, hk, hk2, rfl, hB, hall⟩ := hrel
          clear C_ar Qb_0 KT_ar B_ar
          have C_br := Lib.hid (C_b.out.below hB)
          have KT_br := Lib.hid (KT_b.out.below hB KT_b.out.lt)
          have B_br := Lib.hid (B_b.out.trans (hB.mono B_b.out.size))
          have Qbr := Lib.hid hB
          clear hB
          by_cases hlt : k < c.las.length ∧ k ≤ 210
          · obtain ⟨hl1, hl2⟩ := hlt
            have hlt' : (k : Int) < (c.las.length : Int) := by omega
            have hl2' : (k : Int) ≤ 210 := by omega
            obtain ⟨eg, eo, ec, ex, hx, hv, hg, d0, d1, d2⟩ := C_br.out.las.at_ hl1
            injection hv with e1 e2 e3
            subst e1 e3
            clear e2
            have HXX := Lib.hid hx
            clear hx d2
            by_cases n1 : ex.name.size ≤ 60
            · have n1' : decide ((60 : Int) < (ex.name.size : Int)) = false := decide_eq_false (by omega)
              by_cases n2 : ex.next.size ≤ 60
              · have n2' : decide ((60 : Int) < (ex.next.size : Int)) = false := decide_eq_false (by omega)
                have HNX := Lib.hid (take_yes_next hall.out HXX.out (show fewlB ex = true by unfold fewlB; simp; omega))
                clear hall
                have lT_0 : w.heap.size < wr.heap.size := KT_br.out.lt
                have cT_0_0 : wr.cell? ⟨w.heap.size, 0, none⟩ = some (.slice pa c.ins.length qa) := KT_br.out.cell 0
                have cT_1_0 : wr.cell? ⟨w.heap.size, 1, none⟩ = some (.slice pb c.outs.length qb) := KT_br.out.cell 1
                have cT_2_0 : wr.cell? ⟨w.heap.size, 2, none⟩ = some (.slice (some ⟨eg, eo, none⟩) c.las.length ql) := KT_br.out.cell 2
                have cT_3_0 : wr.cell? ⟨w.heap.size, 3, none⟩ = some (.slice pg c.gts.length qg) := KT_br.out.cell 3
                go_wp2
                refine ⟨⟨k + 1, by omega, by omega, by go_num, Qbr.out, HNX⟩, ?_⟩
                simp [intOf]; omega
              · have n2' : (60 : Int) < (ex.next.size : Int) := by omega
                obtain rfl : q = false := by
                  rw [← HE.out]
                  unfold fewcB
                  rw [HA1.out, all_bad HXX.out (by omega) (show fewlB ex = false by unfold fewlB; simp; omega)]; rfl
                clear HE
                have lT_0 : w.heap.size < wr.heap.size := KT_br.out.lt
                have cT_0_0 : wr.cell? ⟨w.heap.size, 0, none⟩ = some (.slice pa c.ins.length qa) := KT_br.out.cell 0
                have cT_1_0 : wr.cell? ⟨w.heap.size, 1, none⟩ = some (.slice pb c.outs.length qb) := KT_br.out.cell 1
                have cT_2_0 : wr.cell? ⟨w.heap.size, 2, none⟩ = some (.slice (some ⟨eg, eo, none⟩) c.las.length ql) := KT_br.out.cell 2
                have cT_3_0 : wr.cell? ⟨w.heap.size, 3, none⟩ = some (.slice pg c.gts.length qg) := KT_br.out.cell 3
                go_wp2
                go_ret
                exact ⟨rfl, B_br.out⟩
            · have n1' : (60 : Int) < (ex.name.size : Int) := by omega
              obtain rfl : q = false := by
                rw [← HE.out]
                unfold fewcB
                rw [HA1.out, all_bad HXX.out (by omega) (show fewlB ex = false by unfold fewlB; simp; omega)]; rfl
              clear HE
              have lT_0 : w.heap.size < wr.heap.size := KT_br.out.lt
              have cT_0_0 : wr.cell? ⟨w.heap.size, 0, none⟩ = some (.slice pa c.ins.length qa) := KT_br.out.cell 0
              have cT_1_0 : wr.cell? ⟨w.heap.size, 1, none⟩ = some (.slice pb c.outs.length qb) := KT_br.out.cell 1
              have cT_2_0 : wr.cell? ⟨w.heap.size, 2, none⟩ = some (.slice (some ⟨eg, eo, none⟩) c.las.length ql) := KT_br.out.cell 2
              have cT_3_0 : wr.cell? ⟨w.heap.size, 3, none⟩ = some (.slice pg c.gts.length qg) := KT_br.out.cell 3
              go_wp2
              go_ret
              exact ⟨rfl, B_br.out⟩
          · have HA2 := Lib.hid (take_all_yes (n := 211) hall.out (show c.las.length ≤ k ∨ 211 ≤ k by omega))
            clear hall
            by_cases hd1 : (k : Int) < (c.las.length : Int)
            · have hd2 : decide ((k : Int) ≤ 210) = false := decide_eq_false (by omega)
              obtain ⟨q1, h1⟩ : ∃ q, fewB c.ins 210 = q := ⟨_, rfl⟩
              obtain ⟨q2, h2⟩ : ∃ q, fewB c.outs 210 = q := ⟨_, rfl⟩
              have H1 := Lib.hid h1
              have H2 := Lib.hid h2
              clear h1 h2
              have lT_0 : w.heap.size < wr.heap.size := KT_br.out.lt
              have cT_0_0 : wr.cell? ⟨w.heap.size, 0, none⟩ = some (.slice pa c.ins.length qa) := KT_br.out.cell 0
              have cT_1_0 : wr.cell? ⟨w.heap.size, 1, none⟩ = some (.slice pb c.outs.length qb) := KT_br.out.cell 1
              have cT_2_0 : wr.cell? ⟨w.heap.size, 2, none⟩ = some (.slice pl c.las.length ql) := KT_br.out.cell 2
              have cT_3_0 : wr.cell? ⟨w.heap.size, 3, none⟩ = some (.slice pg c.gts.length qg) := KT_br.out.cell 3
              go_wp2_with fail
              clear lT_0 cT_0_0 cT_1_0 cT_2_0 cT_3_0
              refine (few_ex c.ins _ 210 _ q1 _ rfl (by decide) C_br.out.ins.lst H1.out).mono ?_
              rintro e w' ⟨rfl, rfl⟩
              have lT_0 : w.heap.size < wr.heap.size := KT_br.out.lt
              have cT_0_0 : wr.cell? ⟨w.heap.size, 0, none⟩ = some (.slice pa c.ins.length qa) := KT_br.out.cell 0
              have cT_1_0 : wr.cell? ⟨w.heap.size, 1, none⟩ = some (.slice pb c.outs.length qb) := KT_br.out.cell 1
              have cT_2_0 : wr.cell? ⟨w.heap.size, 2, none⟩ = some (.slice pl c.las.length ql) := KT_br.out.cell 2
              have cT_3_0 : wr.cell? ⟨w.heap.size, 3, none⟩ = some (.slice pg c.gts.length qg) := KT_br.out.cell 3
              go_wp2_with fail
              clear lT_0 cT_0_0 cT_1_0 cT_2_0 cT_3_0
              refine (few_ex c.outs _ 210 _ q2 _ rfl (by decide) C_br.out.outs.lst H2.out).mono ?_
              rintro e w' ⟨rfl, rfl⟩
              cases q1
              · obtain rfl : q = false := by
                  rw [← HE.out]
                  unfold fewcB
                  rw [HA1.out, HA2.out, H1.out, H2.out]; rfl
                clear HE
                have lT_0 : w.heap.size < wr.heap.size := KT_br.out.lt
                have cT_0_0 : wr.cell? ⟨w.heap.size, 0, none⟩ = some (.slice pa c.ins.length qa) := KT_br.out.cell 0
                have cT_1_0 : wr.cell? ⟨w.heap.size, 1, none⟩ = some (.slice pb c.outs.length qb) := KT_br.out.cell 1
                have cT_2_0 : wr.cell? ⟨w.heap.size, 2, none⟩ = some (.slice pl c.las.length ql) := KT_br.out.cell 2
                have cT_3_0 : wr.cell? ⟨w.heap.size, 3, none⟩ = some (.slice pg c.gts.length qg) := KT_br.out.cell 3
                go_wp2
                go_ret
                exact ⟨rfl, B_br.out⟩
              · cases q2
                · obtain rfl : q = false := by
                    rw [← HE.out]
                    unfold fewcB
                    rw [HA1.out, HA2.out, H1.out, H2.out]; rfl
                  clear HE
                  have lT_0 : w.heap.size < wr.heap.size := KT_br.out.lt
                  have cT_0_0 : wr.cell? ⟨w.heap.size, 0, none⟩ = some (.slice pa c.ins.length qa) := KT_br.out.cell 0
                  have cT_1_0 : wr.cell? ⟨w.heap.size, 1, none⟩ = some (.slice pb c.outs.length qb) := KT_br.out.cell 1
                  have cT_2_0 : wr.cell? ⟨w.heap.size, 2, none⟩ = some (.slice pl c.las.length ql) := KT_br.out.cell 2
                  have cT_3_0 : wr.cell? ⟨w.heap.size, 3, none⟩ = some (.slice pg c.gts.length qg) := KT_br.out.cell 3
                  go_wp2
                  go_ret
                  exact ⟨rfl, B_br.out⟩
                · by_cases m1 : c.gts.length ≤ 210
                  · exfalso
                    omega
                  · have m1' : decide ((c.gts.length : Int) ≤ 210) = false := decide_eq_false (by omega)
                    obtain rfl : q = false := by
                      rw [← HE.out]
                      unfold fewcB
                      rw [HA1.out, HA2.out, H1.out, H2.out]; simp [m1]
                    clear HE
                    have lT_0 : w.heap.size < wr.heap.size := KT_br.out.lt
                    have cT_0_0 : wr.cell? ⟨w.heap.size, 0, none⟩ = some (.slice pa c.ins.length qa) := KT_br.out.cell 0
                    have cT_1_0 : wr.cell? ⟨w.heap.size, 1, none⟩ = some (.slice pb c.outs.length qb) := KT_br.out.cell 1
                    have cT_2_0 : wr.cell? ⟨w.heap.size, 2, none⟩ = some (.slice pl c.las.length ql) := KT_br.out.cell 2
                    have cT_3_0 : wr.cell? ⟨w.heap.size, 3, none⟩ = some (.slice pg c.gts.length qg) := KT_br.out.cell 3
                    go_wp2
                    go_ret
                    exact ⟨rfl, B_br.out⟩
            · obtain ⟨q1, h1⟩ : ∃ q, fewB c.ins 210 = q := ⟨_, rfl⟩
              obtain ⟨q2, h2⟩ : ∃ q, fewB c.outs 210 = q := ⟨_, rfl⟩
              have H1 := Lib.hid h1
              have H2 := Lib.hid h2
              clear h1 h2
              have lT_0 : w.heap.size < wr.heap.size := KT_br.out.lt
              have cT_0_0 : wr.cell? ⟨w.heap.size, 0, none⟩ = some (.slice pa c.ins.length qa) := KT_br.out.cell 0
              have cT_1_0 : wr.cell? ⟨w.heap.size, 1, none⟩ = some (.slice pb c.outs.length qb) := KT_br.out.cell 1
              have cT_2_0 : wr.cell? ⟨w.heap.size, 2, none⟩ = some (.slice pl c.las.length ql) := KT_br.out.cell 2
              have cT_3_0 : wr.cell? ⟨w.heap.size, 3, none⟩ = some (.slice pg c.gts.length qg) := KT_br.out.cell 3
              go_wp2_with fail
              clear lT_0 cT_0_0 cT_1_0 cT_2_0 cT_3_0
              refine (few_ex c.ins _ 210 _ q1 _ rfl (by decide) C_br.out.ins.lst H1.out).mono ?_
              rintro e w' ⟨rfl, rfl⟩
              have lT_0 : w.heap.size < wr.heap.size := KT_br.out.lt
              have cT_0_0 : wr.cell? ⟨w.heap.size, 0, none⟩ = some (.slice pa c.ins.length qa) := KT_br.out.cell 0
              have cT_1_0 : wr.cell? ⟨w.heap.size, 1, none⟩ = some (.slice pb c.outs.length qb) := KT_br.out.cell 1
              have cT_2_0 : wr.cell? ⟨w.heap.size, 2, none⟩ = some (.slice pl c.las.length ql) := KT_br.out.cell 2
              have cT_3_0 : wr.cell? ⟨w.heap.size, 3, none⟩ = some (.slice pg c.gts.length qg) := KT_br.out.cell 3
              go_wp2_with fail
              clear lT_0 cT_0_0 cT_1_0 cT_2_0 cT_3_0
              refine (few_ex c.outs _ 210 _ q2 _ rfl (by decide) C_br.out.outs.lst H2.out).mono ?_
              rintro e w' ⟨rfl, rfl⟩
              cases q1
              · obtain rfl : q = false := by
                  rw [← HE.out]
                  unfold fewcB
                  rw [HA1.out, HA2.out, H1.out, H2.out]; rfl
                clear HE
                have lT_0 : w.heap.size < wr.heap.size := KT_br.out.lt
                have cT_0_0 : wr.cell? ⟨w.heap.size, 0, none⟩ = some (.slice pa c.ins.length qa) := KT_br.out.cell 0
                have cT_1_0 : wr.cell? ⟨w.heap.size, 1, none⟩ = some (.slice pb c.outs.length qb) := KT_br.out.cell 1
                have cT_2_0 : wr.cell? ⟨w.heap.size, 2, none⟩ = some (.slice pl c.las.length ql) := KT_br.out.cell 2
                have cT_3_0 : wr.cell? ⟨w.heap.size, 3, none⟩ = some (.slice pg c.gts.length qg) := KT_br.out.cell 3
                go_wp2
                go_ret
                exact ⟨rfl, B_br.out⟩
              · cases q2
                · obtain rfl : q = false := by
                    rw [← HE.out]
                    unfold fewcB
                    rw [HA1.out, HA2.out, H1.out, H2.out]; rfl
                  clear HE
                  have lT_0 : w.heap.size < wr.heap.size := KT_br.out.lt
                  have cT_0_0 : wr.cell? ⟨w.heap.size, 0, none⟩ = some (.slice pa c.ins.length qa) := KT_br.out.cell 0
                  have cT_1_0 : wr.cell? ⟨w.heap.size, 1, none⟩ = some (.slice pb c.outs.length qb) := KT_br.out.cell 1
                  have cT_2_0 : wr.cell? ⟨w.heap.size, 2, none⟩ = some (.slice pl c.las.length ql) := KT_br.out.cell 2
                  have cT_3_0 : wr.cell? ⟨w.heap.size, 3, none⟩ = some (.slice pg c.gts.length qg) := KT_br.out.cell 3
                  go_wp2
                  go_ret
                  exact ⟨rfl, B_br.out⟩
                · by_cases m1 : c.gts.length ≤ 210
                  · exfalso
                    omega
                  · have m1' : decide ((c.gts.length : Int) ≤ 210) = false := decide_eq_false (by omega)
                    obtain rfl : q = false := by
                      rw [← HE.out]
                      unfold fewcB
                      rw [HA1.out, HA2.out, H1.out, H2.out]; simp [m1]
                    clear HE
                    have lT_0 : w.heap.size < wr.heap.size := KT_br.out.lt
                    have cT_0_0 : wr.cell? ⟨w.heap.size, 0, none⟩ = some (.slice pa c.ins.length qa) := KT_br.out.cell 0
                    have cT_1_0 : wr.cell? ⟨w.heap.size, 1, none⟩ = some (.slice pb c.outs.length qb) := KT_br.out.cell 1
                    have cT_2_0 : wr.cell? ⟨w.heap.size, 2, none⟩ = some (.slice pl c.las.length ql) := KT_br.out.cell 2
                    have cT_3_0 : wr.cell? ⟨w.heap.size, 3, none⟩ = some (.slice pg c.gts.length qg) := KT_br.out.cell 3
                    go_wp2
                    go_ret
                    exact ⟨rfl, B_br.out⟩
      · have lT_0 : w.heap.size < wr.heap.size := KT_ar.out.lt
        have cT_0_0 : wr.cell? ⟨w.heap.size, 0, none⟩ = some (.slice pa c.ins.length qa) := KT_ar.out.cell 0
        have cT_1_0 : wr.cell? ⟨w.heap.size, 1, none⟩ = some (.slice pb c.outs.length qb) := KT_ar.out.cell 1
        have cT_2_0 : wr.cell? ⟨w.heap.size, 2, none⟩ = some (.slice pl c.las.length ql) := KT_ar.out.cell 2
        have cT_3_0 : wr.cell? ⟨w.heap.size, 3, none⟩ = some (.slice pg c.gts.length qg) := KT_ar.out.cell 3
        clear Qar
        rename World => y2
        clear lT_0 cT_0_0 cT_1_0 cT_2_0 cT_3_0
        have C_b := C_ar
        have KT_b := KT_ar
        have B_b := B_ar
        have Qb_0 := Lib.hid (Below.refl y2.heap.size y2)
        have lT_0 : w.heap.size < y2.heap.size := KT_ar.out.lt
        have cT_0_0 : y2.cell? ⟨w.heap.size, 0, none⟩ = some (.slice pa c.ins.length qa) := KT_ar.out.cell 0
        have cT_1_0 : y2.cell? ⟨w.heap.size, 1, none⟩ = some (.slice pb c.outs.length qb) := KT_ar.out.cell 1
        have cT_2_0 : y2.cell? ⟨w.heap.size, 2, none⟩ = some (.slice pl c.las.length ql) := KT_ar.out.cell 2
        have cT_3_0 : y2.cell? ⟨w.heap.size, 3, none⟩ = some (.slice pg c.gts.length qg) := KT_ar.out.cell 3
        go_wp2
        clear lT_0 cT_0_0 cT_1_0 cT_2_0 cT_3_0
        go_loopw [5] (fun i wr => ∃ k : Nat, k ≤ c.las.length ∧ k ≤ 211 ∧ i = .int .i64 (k : Int) ∧ Below y2.heap.size y2 wr ∧ Hid (∀ s ∈ c.las.take k, fewlB s = true)) (fun i _ => c.las.length - (intOf i).toNat)
        case atStart => exact ⟨0, by omega, by omega, rfl, Below.refl _ _, Lib.hid (by simp)⟩
        case round =>
          obtain ⟨k, hk, hk2, rfl, hB, hall⟩ := hrel
          clear C_ar Qb_0 KT_ar B_ar
          have C_br := Lib.hid (C_b.out.below hB)
          have KT_br := Lib.hid (KT_b.out.below hB KT_b.out.lt)
          have B_br := Lib.hid (B_b.out.trans (hB.mono B_b.out.size))
          have Qbr := Lib.hid hB
          clear hB
          by_cases hlt : k < c.las.length ∧ k ≤ 210
          · obtain ⟨hl1, hl2⟩ := hlt
            have hlt' : (k : Int) < (c.las.length : Int) := by omega
            have hl2' : (k : Int) ≤ 210 := by omega
            obtain ⟨eg, eo, ec, ex, hx, hv, hg, d0, d1, d2⟩ := C_br.out.las.at_ hl1
            injection hv with e1 e2 e3
            subst e1 e3
            clear e2
            have HXX := Lib.hid hx
            clear hx d2
            by_cases n1 : ex.name.size ≤ 60
            · have n1' : decide ((60 : Int) < (ex.name.size : Int)) = false := decide_eq_false (by omega)
              by_cases n2 : ex.next.size ≤ 60
              · have n2' : decide ((60 : Int) < (ex.next.size : Int)) = false := decide_eq_false (by omega)
                have HNX := Lib.hid (take_yes_next hall.out HXX.out (show fewlB ex = true by unfold fewlB; simp; omega))
                clear hall
                have lT_0 : w.heap.size < wr.heap.size := KT_br.out.lt
                have cT_0_0 : wr.cell? ⟨w.heap.size, 0, none⟩ = some (.slice pa c.ins.length qa) := KT_br.out.cell 0
                have cT_1_0 : wr.cell? ⟨w.heap.size, 1, none⟩ = some (.slice pb c.outs.length qb) := KT_br.out.cell 1
                have cT_2_0 : wr.cell? ⟨w.heap.size, 2, none⟩ = some (.slice (some ⟨eg, eo, none⟩) c.las.length ql) := KT_br.out.cell 2
                have cT_3_0 : wr.cell? ⟨w.heap.size, 3, none⟩ = some (.slice pg c.gts.length qg) := KT_br.out.cell 3
                go_wp2
                refine ⟨⟨k + 1, by omega, by omega, by go_num, Qbr.out, HNX⟩, ?_⟩
                simp [intOf]; omega
              · have n2' : (60 : Int) < (ex.next.size : Int) := by omega
                obtain rfl : q = false := by
                  rw [← HE.out]
                  unfold fewcB
                  rw [HA1.out, all_bad HXX.out (by omega) (show fewlB ex = false by unfold fewlB; simp; omega)]; rfl
                clear HE
                have lT_0 : w.heap.size < wr.heap.size := KT_br.out.lt
                have cT_0_0 : wr.cell? ⟨w.heap.size, 0, none⟩ = some (.slice pa c.ins.length qa) := KT_br.out.cell 0
                have cT_1_0 : wr.cell? ⟨w.heap.size, 1, none⟩ = some (.slice pb c.outs.length qb) := KT_br.out.cell 1
                have cT_2_0 : wr.cell? ⟨w.heap.size, 2, none⟩ = some (.slice (some ⟨eg, eo, none⟩) c.las.length ql) := KT_br.out.cell 2
                have cT_3_0 : wr.cell? ⟨w.heap.size, 3, none⟩ = some (.slice pg c.gts.length qg) := KT_br.out.cell 3
                go_wp2
                go_ret
                exact ⟨rfl, B_br.out⟩
            · have n1' : (60 : Int) < (ex.name.size : Int) := by omega
              obtain rfl : q = false := by
                rw [← HE.out]
                unfold fewcB
                rw [HA1.out, all_bad HXX.out (by omega) (show fewlB ex = false by unfold fewlB; simp; omega)]; rfl
              clear HE
              have lT_0 : w.heap.size < wr.heap.size := KT_br.out.lt
              have cT_0_0 : wr.cell? ⟨w.heap.size, 0, none⟩ = some (.slice pa c.ins.length qa) := KT_br.out.cell 0
              have cT_1_0 : wr.cell? ⟨w.heap.size, 1, none⟩ = some (.slice pb c.outs.length qb) := KT_br.out.cell 1
              have cT_2_0 : wr.cell? ⟨w.heap.size, 2, none⟩ = some (.slice (some ⟨eg, eo, none⟩) c.las.length ql) := KT_br.out.cell 2
              have cT_3_0 : wr.cell? ⟨w.heap.size, 3, none⟩ = some (.slice pg c.gts.length qg) := KT_br.out.cell 3
              go_wp2
              go_ret
              exact ⟨rfl, B_br.out⟩
          · have HA2 := Lib.hid (take_all_yes (n := 211) hall.out (show c.las.length ≤ k ∨ 211 ≤ k by omega))
            clear hall
            by_cases hd1 : (k : Int) < (c.las.length : Int)
            · have hd2 : decide ((k : Int) ≤ 210) = false := decide_eq_false (by omega)
              obtain ⟨q1, h1⟩ : ∃ q, fewB c.ins 210 = q := ⟨_, rfl⟩
              obtain ⟨q2, h2⟩ : ∃ q, fewB c.outs 210 = q := ⟨_, rfl⟩
              have H1 := Lib.hid h1
              have H2 := Lib.hid h2
              clear h1 h2
              have lT_0 : w.heap.size < wr.heap.size := KT_br.out.lt
              have cT_0_0 : wr.cell? ⟨w.heap.size, 0, none⟩ = some (.slice pa c.ins.length qa) := KT_br.out.cell 0
              have cT_1_0 : wr.cell? ⟨w.heap.size, 1, none⟩ = some (.slice pb c.outs.length qb) := KT_br.out.cell 1
              have cT_2_0 : wr.cell? ⟨w.heap.size, 2, none⟩ = some (.slice pl c.las.length ql) := KT_br.out.cell 2
              have cT_3_0 : wr.cell? ⟨w.heap.size, 3, none⟩ = some (.slice pg c.gts.length qg) := KT_br.out.cell 3
              go_wp2_with fail
              clear lT_0 cT_0_0 cT_1_0 cT_2_0 cT_3_0
              refine (few_ex c.ins _ 210 _ q1 _ rfl (by decide) C_br.out.ins.lst H1.out).mono ?_
              rintro e w' ⟨rfl, rfl⟩
              have lT_0 : w.heap.size < wr.heap.size := KT_br.out.lt
              have cT_0_0 : wr.cell? ⟨w.heap.size, 0, none⟩ = some (.slice pa c.ins.length qa) := KT_br.out.cell 0
              have cT_1_0 : wr.cell? ⟨w.heap.size, 1, none⟩ = some (.slice pb c.outs.length qb) := KT_br.out.cell 1
              have cT_2_0 : wr.cell? ⟨w.heap.size, 2, none⟩ = some (.slice pl c.las.length ql) := KT_br.out.cell 2
              have cT_3_0 : wr.cell? ⟨w.heap.size, 3, none⟩ = some (.slice pg c.gts.length qg) := KT_br.out.cell 3
              go_wp2_with fail
              clear lT_0 cT_0_0 cT_1_0 cT_2_0 cT_3_0
              refine (few_ex c.outs _ 210 _ q2 _ rfl (by decide) C_br.out.outs.lst H2.out).mono ?_
              rintro e w' ⟨rfl, rfl⟩
              cases q1
              · obtain rfl : q = false := by
                  rw [← HE.out]
                  unfold fewcB
                  rw [HA1.out, HA2.out, H1.out, H2.out]; rfl
                clear HE
                have lT_0 : w.heap.size < wr.heap.size := KT_br.out.lt
                have cT_0_0 : wr.cell? ⟨w.heap.size, 0, none⟩ = some (.slice pa c.ins.length qa) := KT_br.out.cell 0
                have cT_1_0 : wr.cell? ⟨w.heap.size, 1, none⟩ = some (.slice pb c.outs.length qb) := KT_br.out.cell 1
                have cT_2_0 : wr.cell? ⟨w.heap.size, 2, none⟩ = some (.slice pl c.las.length ql) := KT_br.out.cell 2
                have cT_3_0 : wr.cell? ⟨w.heap.size, 3, none⟩ = some (.slice pg c.gts.length qg) := KT_br.out.cell 3
                go_wp2
                go_ret
                exact ⟨rfl, B_br.out⟩
              · cases q2
                · obtain rfl : q = false := by
                    rw [← HE.out]
                    unfold fewcB
                    rw [HA1.out, HA2.out, H1.out, H2.out]; rfl
                  clear HE
                  have lT_0 : w.heap.size < wr.heap.size := KT_br.out.lt
                  have cT_0_0 : wr.cell? ⟨w.heap.size, 0, none⟩ = some (.slice pa c.ins.length qa) := KT_br.out.cell 0
                  have cT_1_0 : wr.cell? ⟨w.heap.size, 1, none⟩ = some (.slice pb c.outs.length qb) := KT_br.out.cell 1
                  have cT_2_0 : wr.cell? ⟨w.heap.size, 2, none⟩ = some (.slice pl c.las.length ql) := KT_br.out.cell 2
                  have cT_3_0 : wr.cell? ⟨w.heap.size, 3, none⟩ = some (.slice pg c.gts.length qg) := KT_br.out.cell 3
                  go_wp2
                  go_ret
                  exact ⟨rfl, B_br.out⟩
                · by_cases m1 : c.gts.length ≤ 210
                  · have m1' : (c.gts.length : Int) ≤ 210 := by omega
                    by_cases m2 : c.las.length ≤ 210
                    · exfalso
                      omega
                    · have m2' : decide ((c.las.length : Int) ≤ 210) = false := decide_eq_false (by omega)
                      obtain rfl : q = false := by
                        rw [← HE.out]
                        unfold fewcB
                        rw [HA1.out, HA2.out, H1.out, H2.out]; simp [m2]
                      clear HE
                      have lT_0 : w.heap.size < wr.heap.size := KT_br.out.lt
                      have cT_0_0 : wr.cell? ⟨w.heap.size, 0, none⟩ = some (.slice pa c.ins.length qa) := KT_br.out.cell 0
                      have cT_1_0 : wr.cell? ⟨w.heap.size, 1, none⟩ = some (.slice pb c.outs.length qb) := KT_br.out.cell 1
                      have cT_2_0 : wr.cell? ⟨w.heap.size, 2, none⟩ = some (.slice pl c.las.length ql) := KT_br.out.cell 2
                      have cT_3_0 : wr.cell? ⟨w.heap.size, 3, none⟩ = some (.slice pg c.gts.length qg) := KT_br.out.cell 3
                      go_wp2
                      go_ret
                      exact ⟨rfl, B_br.out⟩
                  · have m1' : decide ((c.gts.length : Int) ≤ 210) = false := decide_eq_false (by omega)
                    obtain rfl : q = false := by
                      rw [← HE.out]
                      unfold fewcB
                      rw [HA1.out, HA2.out, H1.out, H2.out]; simp [m1]
                    clear HE
                    have lT_0 : w.heap.size < wr.heap.size := KT_br.out.lt
                    have cT_0_0 : wr.cell? ⟨w.heap.size, 0, none⟩ = some (.slice pa c.ins.length qa) := KT_br.out.cell 0
                    have cT_1_0 : wr.cell? ⟨w.heap.size, 1, none⟩ = some (.slice pb c.outs.length qb) := KT_br.out.cell 1
                    have cT_2_0 : wr.cell? ⟨w.heap.size, 2, none⟩ = some (.slice pl c.las.length ql) := KT_br.out.cell 2
                    have cT_3_0 : wr.cell? ⟨w.heap.size, 3, none⟩ = some (.slice pg c.gts.length qg) := KT_br.out.cell 3
                    go_wp2
                    go_ret
                    exact ⟨rfl, B_br.out⟩
            · obtain ⟨q1, h1⟩ : ∃ q, fewB c.ins 210 = q := ⟨_, rfl⟩
              obtain ⟨q2, h2⟩ : ∃ q, fewB c.outs 210 = q := ⟨_, rfl⟩
              have H1 := Lib.hid h1
              have H2 := Lib.hid h2
              clear h1 h2
              have lT_0 : w.heap.size < wr.heap.size := KT_br.out.lt
              have cT_0_0 : wr.cell? ⟨w.heap.size, 0, none⟩ = some (.slice pa c.ins.length qa) := KT_br.out.cell 0
              have cT_1_0 : wr.cell? ⟨w.heap.size, 1, none⟩ = some (.slice pb c.outs.length qb) := KT_br.out.cell 1
              have cT_2_0 : wr.cell? ⟨w.heap.size, 2, none⟩ = some (.slice pl c.las.length ql) := KT_br.out.cell 2
              have cT_3_0 : wr.cell? ⟨w.heap.size, 3, none⟩ = some (.slice pg c.gts.length qg) := KT_br.out.cell 3
              go_wp2_with fail
              clear lT_0 cT_0_0 cT_1_0 cT_2_0 cT_3_0
              refine (few_ex c.ins _ 210 _ q1 _ rfl (by decide) C_br.out.ins.lst H1.out).mono ?_
              rintro e w' ⟨rfl, rfl⟩
              have lT_0 : w.heap.size < wr.heap.size := KT_br.out.lt
              have cT_0_0 : wr.cell? ⟨w.heap.size, 0, none⟩ = some (.slice pa c.ins.length qa) := KT_br.out.cell 0
              have cT_1_0 : wr.cell? ⟨w.heap.size, 1, none⟩ = some (.slice pb c.outs.length qb) := KT_br.out.cell 1
              have cT_2_0 : wr.cell? ⟨w.heap.size, 2, none⟩ = some (.slice pl c.las.length ql) := KT_br.out.cell 2
              have cT_3_0 : wr.cell? ⟨w.heap.size, 3, none⟩ = some (.slice pg c.gts.length qg) := KT_br.out.cell 3
              go_wp2_with fail
              clear lT_0 cT_0_0 cT_1_0 cT_2_0 cT_3_0
              refine (few_ex c.outs _ 210 _ q2 _ rfl (by decide) C_br.out.outs.lst H2.out).mono ?_
              rintro e w' ⟨rfl, rfl⟩
              cases q1
              · obtain rfl : q = false := by
                  rw [← HE.out]
                  unfold fewcB
                  rw [HA1.out, HA2.out, H1.out, H2.out]; rfl
                clear HE
                have lT_0 : w.heap.size < wr.heap.size := KT_br.out.lt
                have cT_0_0 : wr.cell? ⟨w.heap.size, 0, none⟩ = some (.slice pa c.ins.length qa) := KT_br.out.cell 0
                have cT_1_0 : wr.cell? ⟨w.heap.size, 1, none⟩ = some (.slice pb c.outs.length qb) := KT_br.out.cell 1
                have cT_2_0 : wr.cell? ⟨w.heap.size, 2, none⟩ = some (.slice pl c.las.length ql) := KT_br.out.cell 2
                have cT_3_0 : wr.cell? ⟨w.heap.size, 3, none⟩ = some (.slice pg c.gts.length qg) := KT_br.out.cell 3
                go_wp2
                go_ret
                exact ⟨rfl, B_br.out⟩
              · cases q2
                · obtain rfl : q = false := by
                    rw [← HE.out]
                    unfold fewcB
                    rw [HA1.out, HA2.out, H1.out, H2.out]; rfl
                  clear HE
                  have lT_0 : w.heap.size < wr.heap.size := KT_br.out.lt
                  have cT_0_0 : wr.cell? ⟨w.heap.size, 0, none⟩ = some (.slice pa c.ins.length qa) := KT_br.out.cell 0
                  have cT_1_0 : wr.cell? ⟨w.heap.size, 1, none⟩ = some (.slice pb c.outs.length qb) := KT_br.out.cell 1
                  have cT_2_0 : wr.cell? ⟨w.heap.size, 2, none⟩ = some (.slice pl c.las.length ql) := KT_br.out.cell 2
                  have cT_3_0 : wr.cell? ⟨w.heap.size, 3, none⟩ = some (.slice pg c.gts.length qg) := KT_br.out.cell 3
                  go_wp2
                  go_ret
                  exact ⟨rfl, B_br.out⟩
                · by_cases m1 : c.gts.length ≤ 210
                  · have m1' : (c.gts.length : Int) ≤ 210 := by omega
                    by_cases m2 : c.las.length ≤ 210
                    · have m2' : (c.las.length : Int) ≤ 210 := by omega
                      obtain rfl : q = true := by
                        rw [← HE.out]
                        unfold fewcB
                        rw [HA1.out, HA2.out, H1.out, H2.out]; simp [m1, m2]
                      clear HE
                      have lT_0 : w.heap.size < wr.heap.size := KT_br.out.lt
                      have cT_0_0 : wr.cell? ⟨w.heap.size, 0, none⟩ = some (.slice pa c.ins.length qa) := KT_br.out.cell 0
                      have cT_1_0 : wr.cell? ⟨w.heap.size, 1, none⟩ = some (.slice pb c.outs.length qb) := KT_br.out.cell 1
                      have cT_2_0 : wr.cell? ⟨w.heap.size, 2, none⟩ = some (.slice pl c.las.length ql) := KT_br.out.cell 2
                      have cT_3_0 : wr.cell? ⟨w.heap.size, 3, none⟩ = some (.slice pg c.gts.length qg) := KT_br.out.cell 3
                      go_wp2
                      go_ret
                      exact ⟨rfl, B_br.out⟩
                    · have m2' : decide ((c.las.length : Int) ≤ 210) = false := decide_eq_false (by omega)
                      obtain rfl : q = false := by
                        rw [← HE.out]
                        unfold fewcB
                        rw [HA1.out, HA2.out, H1.out, H2.out]; simp [m2]
                      clear HE
                      have lT_0 : w.heap.size < wr.heap.size := KT_br.out.lt
                      have cT_0_0 : wr.cell? ⟨w.heap.size, 0, none⟩ = some (.slice pa c.ins.length qa) := KT_br.out.cell 0
                      have cT_1_0 : wr.cell? ⟨w.heap.size, 1, none⟩ = some (.slice pb c.outs.length qb) := KT_br.out.cell 1
                      have cT_2_0 : wr.cell? ⟨w.heap.size, 2, none⟩ = some (.slice pl c.las.length ql) := KT_br.out.cell 2
                      have cT_3_0 : wr.cell? ⟨w.heap.size, 3, none⟩ = some (.slice pg c.gts.length qg) := KT_br.out.cell 3
                      go_wp2
                      go_ret
                      exact ⟨rfl, B_br.out⟩
                  · have m1' : decide ((c.gts.length : Int) ≤ 210) = false := decide_eq_false (by omega)
                    obtain rfl : q = false := by
                      rw [← HE.out]
                      unfold fewcB
                      rw [HA1.out, HA2.out, H1.out, H2.out]; simp [m1]
                    clear HE
                    have lT_0 : w.heap.size < wr.heap.size := KT_br.out.lt
                    have cT_0_0 : wr.cell? ⟨w.heap.size, 0, none⟩ = some (.slice pa c.ins.length qa) := KT_br.out.cell 0
                    have cT_1_0 : wr.cell? ⟨w.heap.size, 1, none⟩ = some (.slice pb c.outs.length qb) := KT_br.out.cell 1
                    have cT_2_0 : wr.cell? ⟨w.heap.size, 2, none⟩ = some (.slice pl c.las.length ql) := KT_br.out.cell 2
                    have cT_3_0 : wr.cell? ⟨w.heap.size, 3, none⟩ = some (.slice pg c.gts.length qg) := KT_br.out.cell 3
                    go_wp2
                    go_ret
                    exact ⟨rfl, B_br.out⟩
end Go.Proofs.YtfkmolbcgnkfdaaDoor
