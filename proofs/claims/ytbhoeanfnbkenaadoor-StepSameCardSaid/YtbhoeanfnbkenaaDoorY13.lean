import Derived.Test.YtbhoeanfnbkenaaDoorY12
namespace Go.Proofs.YtbhoeanfnbkenaaDoor
open Go.RowKit Go.WideMaps
set_option maxRecDepth 100000
set_option linter.unusedSimpArgs false
variable (Hy : World → Prop)
attribute [local irreducible] runM runD cwp seqQ blkQ lpQ retQ asQ bdQ bdY retP endR preD retD
theorem rev_take {gs : List Gt} {k : Nat} {g : Gt} (h : gs[gs.length - 1 - k]? = some g) (hk : k < gs.length) : gsR (gs.reverse.take (k + 1)) = gsR (gs.reverse.take k) ++ [[.s g.name, .i .i64 g.op, .sl (sR g.ins), .sl (rR g.rows), .b g.off]] := by
  have : gs.reverse[k]? = some g := by rw [List.getElem?_reverse hk]; exact h
  rw [List.take_add_one, this, gsR_app]
  rfl
set_option maxHeartbeats 16000000 in
theorem stepSame_ct (c : Ci) (seq : List (List Bool)) (picks : List Bool) (hr : CRoom c) (hgo : GOk c.gts) (hlo : LOk c.las) : Ct Tryd.prog Hy 10 [.ag (cE c), .sl (bb seq), .sl (bl picks)] [.b true] := by
  have hw := works08_ct Hy
  have hfe := few_ct Hy c
  have hse := lrows_ct Hy seq 12 (by decide)
  have hs1 := start_ct Hy c picks hr hgo hlo
  cases hl : fewC c with
  | false =>
    rw [hl] at hfe
    obtain ⟨ins, outs, las, gts⟩ := c
    simp only [cE] at hfe hs1 ⊢
    refine ct_of (cls := _root_.id) tt_ok follows_ Tryd.func10 rfl (by decide) (Nat.le_of_ble_eq_true rfl) ?_
    rw [show Tryd.f10.ntmps = 142 from rfl, s0_nf]
    simp only [List.zipIdx_cons, List.zipIdx_nil, List.map_cons, List.map_nil, Nat.reduceAdd]
    repeat' first | refine c_seq ?_ | refine c_reg' rfl fun K E hK hE => ?_ | (refine r_opN fun κ η => ?_; simp only [go_sem, simprocAttr, Nat.le_refl]; refine η _ ?_; clear η κ) | (refine r_nil (hK _ ?_); clear hE hK E K) | refine q_seq ?_
    refine r_opN fun κ η => ?_; simp only [go_sem, simprocAttr, Nat.le_refl]; refine ⟨_, hw, ?_⟩; simp only [go_sem, simprocAttr, Nat.le_refl]; refine η _ ?_; clear η κ
    repeat' first | refine c_seq ?_ | refine c_reg' rfl fun K E hK hE => ?_ | (refine r_opN fun κ η => ?_; simp only [go_sem, simprocAttr, Nat.le_refl]; refine η _ ?_; clear η κ) | (refine r_nil (hK _ ?_); clear hE hK E K) | refine q_seq ?_ | refine c_cond false rfl (fun h => (by cases h)) fun _ => ?_ | refine c_skip ?_
    refine r_opN fun κ η => ?_; simp only [go_sem, simprocAttr, Nat.le_refl]; refine ⟨_, hfe, ?_⟩; simp only [go_sem, simprocAttr, Nat.le_refl]; refine η _ ?_; clear η κ
    repeat' first | refine c_seq ?_ | refine c_reg' rfl fun K E hK hE => ?_ | ((first | refine r_opN fun κ η => ?_ | refine r_opG rfl fun κ η => ?_); simp only [go_sem, simprocAttr, Nat.le_refl]; refine η _ ?_; clear η κ) | (refine r_nil (hK _ ?_); clear hE hK E K) | refine q_seq ?_
    refine r_opN fun κ η => ?_; simp only [go_sem, simprocAttr, Nat.le_refl]; refine ⟨_, hs1, ?_⟩; simp only [go_sem, simprocAttr, Nat.le_refl]; refine η _ ?_; clear η κ
    repeat' first | refine c_seq ?_ | refine c_reg' rfl fun K E hK hE => ?_ | ((first | refine r_opN fun κ η => ?_ | refine r_opG rfl fun κ η => ?_); simp only [go_sem, simprocAttr, Nat.le_refl]; refine η _ ?_; clear η κ) | (refine r_nil (hK _ ?_); clear hE hK E K) | refine q_seq ?_ | refine c_cond true rfl (fun _ => ?_) (fun h => (by cases h)) | refine c_ret ?_ | refine q_seqR ?_ | (refine q_ret ?_; refine q_r1 ?_; simp only [go_sem, simprocAttr, Nat.le_refl])
  | true =>
    rw [hl] at hfe
    have hf := few_get hl
    cases hl2 : rowsB seq 12 with
    | false =>
      rw [hl2] at hse
      obtain ⟨ins, outs, las, gts⟩ := c
      simp only [cE] at hfe hs1 ⊢
      refine ct_of (cls := _root_.id) tt_ok follows_ Tryd.func10 rfl (by decide) (Nat.le_of_ble_eq_true rfl) ?_
      rw [show Tryd.f10.ntmps = 142 from rfl, s0_nf]
      simp only [List.zipIdx_cons, List.zipIdx_nil, List.map_cons, List.map_nil, Nat.reduceAdd]
      repeat' first | refine c_seq ?_ | refine c_reg' rfl fun K E hK hE => ?_ | (refine r_opN fun κ η => ?_; simp only [go_sem, simprocAttr, Nat.le_refl]; refine η _ ?_; clear η κ) | (refine r_nil (hK _ ?_); clear hE hK E K) | refine q_seq ?_
      refine r_opN fun κ η => ?_; simp only [go_sem, simprocAttr, Nat.le_refl]; refine ⟨_, hw, ?_⟩; simp only [go_sem, simprocAttr, Nat.le_refl]; refine η _ ?_; clear η κ
      repeat' first | refine c_seq ?_ | refine c_reg' rfl fun K E hK hE => ?_ | (refine r_opN fun κ η => ?_; simp only [go_sem, simprocAttr, Nat.le_refl]; refine η _ ?_; clear η κ) | (refine r_nil (hK _ ?_); clear hE hK E K) | refine q_seq ?_ | refine c_cond false rfl (fun h => (by cases h)) fun _ => ?_ | refine c_skip ?_
      refine r_opN fun κ η => ?_; simp only [go_sem, simprocAttr, Nat.le_refl]; refine ⟨_, hfe, ?_⟩; simp only [go_sem, simprocAttr, Nat.le_refl]; refine η _ ?_; clear η κ
      repeat' ((first | refine r_opN fun κ η => ?_ | refine r_opG rfl fun κ η => ?_); simp only [go_sem, simprocAttr, Nat.le_refl]; refine η _ ?_; clear η κ)
      refine r_opG rfl fun κ η => ?_; simp only [go_sem, simprocAttr, Nat.le_refl]; refine ⟨_, hse, ?_⟩; simp only [go_sem, simprocAttr, Nat.le_refl]; refine η _ ?_; clear η κ
      repeat' first | refine c_seq ?_ | refine c_reg' rfl fun K E hK hE => ?_ | (refine r_opN fun κ η => ?_; simp only [go_sem, simprocAttr, Nat.le_refl]; refine η _ ?_; clear η κ) | (refine r_nil (hK _ ?_); clear hE hK E K) | refine q_seq ?_
      refine r_opN fun κ η => ?_; simp only [go_sem, simprocAttr, Nat.le_refl]; refine ⟨_, hs1, ?_⟩; simp only [go_sem, simprocAttr, Nat.le_refl]; refine η _ ?_; clear η κ
      repeat' first | refine c_seq ?_ | refine c_reg' rfl fun K E hK hE => ?_ | ((first | refine r_opN fun κ η => ?_ | refine r_opG rfl fun κ η => ?_); simp only [go_sem, simprocAttr, Nat.le_refl]; refine η _ ?_; clear η κ) | (refine r_nil (hK _ ?_); clear hE hK E K) | refine q_seq ?_ | refine c_cond true rfl (fun _ => ?_) (fun h => (by cases h)) | refine c_ret ?_ | refine q_seqR ?_ | (refine q_ret ?_; refine q_r1 ?_; simp only [go_sem, simprocAttr, Nat.le_refl])
    | true =>
      rw [hl2] at hse
      obtain ⟨hq12, hq60⟩ := rowsB_get hl2
      by_cases h0 : (checkO c).1 = 0
      rotate_left
      · rw [show startC c picks = ([], 1) from if_neg h0] at hs1
        obtain ⟨ins, outs, las, gts⟩ := c
        simp only [cE] at hfe hs1 ⊢
        refine ct_of (cls := _root_.id) tt_ok follows_ Tryd.func10 rfl (by decide) (Nat.le_of_ble_eq_true rfl) ?_
        rw [show Tryd.f10.ntmps = 142 from rfl, s0_nf]
        simp only [List.zipIdx_cons, List.zipIdx_nil, List.map_cons, List.map_nil, Nat.reduceAdd]
        repeat' first | refine c_seq ?_ | refine c_reg' rfl fun K E hK hE => ?_ | (refine r_opN fun κ η => ?_; simp only [go_sem, simprocAttr, Nat.le_refl]; refine η _ ?_; clear η κ) | (refine r_nil (hK _ ?_); clear hE hK E K) | refine q_seq ?_
        refine r_opN fun κ η => ?_; simp only [go_sem, simprocAttr, Nat.le_refl]; refine ⟨_, hw, ?_⟩; simp only [go_sem, simprocAttr, Nat.le_refl]; refine η _ ?_; clear η κ
        repeat' first | refine c_seq ?_ | refine c_reg' rfl fun K E hK hE => ?_ | (refine r_opN fun κ η => ?_; simp only [go_sem, simprocAttr, Nat.le_refl]; refine η _ ?_; clear η κ) | (refine r_nil (hK _ ?_); clear hE hK E K) | refine q_seq ?_ | refine c_cond false rfl (fun h => (by cases h)) fun _ => ?_ | refine c_skip ?_
        refine r_opN fun κ η => ?_; simp only [go_sem, simprocAttr, Nat.le_refl]; refine ⟨_, hfe, ?_⟩; simp only [go_sem, simprocAttr, Nat.le_refl]; refine η _ ?_; clear η κ
        repeat' ((first | refine r_opN fun κ η => ?_ | refine r_opG rfl fun κ η => ?_); simp only [go_sem, simprocAttr, Nat.le_refl]; refine η _ ?_; clear η κ)
        refine r_opG rfl fun κ η => ?_; simp only [go_sem, simprocAttr, Nat.le_refl]; refine ⟨_, hse, ?_⟩; simp only [go_sem, simprocAttr, Nat.le_refl]; refine η _ ?_; clear η κ
        repeat' first | refine c_seq ?_ | refine c_reg' rfl fun K E hK hE => ?_ | (refine r_opN fun κ η => ?_; simp only [go_sem, simprocAttr, Nat.le_refl]; refine η _ ?_; clear η κ) | (refine r_nil (hK _ ?_); clear hE hK E K) | refine q_seq ?_
        refine r_opN fun κ η => ?_; simp only [go_sem, simprocAttr, Nat.le_refl]; refine ⟨_, hs1, ?_⟩; simp only [go_sem, simprocAttr, Nat.le_refl]; refine η _ ?_; clear η κ
        repeat' first | refine c_seq ?_ | refine c_reg' rfl fun K E hK hE => ?_ | ((first | refine r_opN fun κ η => ?_ | refine r_opG rfl fun κ η => ?_); simp only [go_sem, simprocAttr, Nat.le_refl]; refine η _ ?_; clear η κ) | (refine r_nil (hK _ ?_); clear hE hK E K) | refine q_seq ?_ | refine c_cond true rfl (fun _ => ?_) (fun h => (by cases h)) | refine c_ret ?_ | refine q_seqR ?_ | (refine q_ret ?_; refine q_r1 ?_; simp only [go_sem, simprocAttr, Nat.le_refl])
      rw [show startC c picks = (beg c.las picks c.las.length, 0) from if_pos h0] at hs1
      by_cases h1 : (60 : Int) < picks.length
      · have h1' := eq_true h1
        obtain ⟨ins, outs, las, gts⟩ := c
        simp only [cE] at hfe hs1 ⊢
        refine ct_of (cls := _root_.id) tt_ok follows_ Tryd.func10 rfl (by decide) (Nat.le_of_ble_eq_true rfl) ?_
        rw [show Tryd.f10.ntmps = 142 from rfl, s0_nf]
        simp only [List.zipIdx_cons, List.zipIdx_nil, List.map_cons, List.map_nil, Nat.reduceAdd]
        repeat' first | refine c_seq ?_ | refine c_reg' rfl fun K E hK hE => ?_ | (refine r_opN fun κ η => ?_; simp only [go_sem, simprocAttr, Nat.le_refl]; refine η _ ?_; clear η κ) | (refine r_nil (hK _ ?_); clear hE hK E K) | refine q_seq ?_
        refine r_opN fun κ η => ?_; simp only [go_sem, simprocAttr, Nat.le_refl]; refine ⟨_, hw, ?_⟩; simp only [go_sem, simprocAttr, Nat.le_refl]; refine η _ ?_; clear η κ
        repeat' first | refine c_seq ?_ | refine c_reg' rfl fun K E hK hE => ?_ | (refine r_opN fun κ η => ?_; simp only [go_sem, simprocAttr, Nat.le_refl]; refine η _ ?_; clear η κ) | (refine r_nil (hK _ ?_); clear hE hK E K) | refine q_seq ?_ | refine c_cond false rfl (fun h => (by cases h)) fun _ => ?_ | refine c_skip ?_
        refine r_opN fun κ η => ?_; simp only [go_sem, simprocAttr, Nat.le_refl]; refine ⟨_, hfe, ?_⟩; simp only [go_sem, simprocAttr, Nat.le_refl]; refine η _ ?_; clear η κ
        repeat' ((first | refine r_opN fun κ η => ?_ | refine r_opG rfl fun κ η => ?_); simp only [go_sem, simprocAttr, Nat.le_refl]; refine η _ ?_; clear η κ)
        refine r_opG rfl fun κ η => ?_; simp only [go_sem, simprocAttr, Nat.le_refl]; refine ⟨_, hse, ?_⟩; simp only [go_sem, simprocAttr, Nat.le_refl]; refine η _ ?_; clear η κ
        repeat' first | refine c_seq ?_ | refine c_reg' rfl fun K E hK hE => ?_ | (refine r_opN fun κ η => ?_; simp only [go_sem, simprocAttr, Nat.le_refl]; refine η _ ?_; clear η κ) | (refine r_nil (hK _ ?_); clear hE hK E K) | refine q_seq ?_
        refine r_opN fun κ η => ?_; simp only [go_sem, simprocAttr, Nat.le_refl]; refine ⟨_, hs1, ?_⟩; simp only [go_sem, simprocAttr, Nat.le_refl]; refine η _ ?_; clear η κ
        repeat' first | refine c_seq ?_ | refine c_reg' rfl fun K E hK hE => ?_ | ((first | refine r_opN fun κ η => ?_ | refine r_opG rfl fun κ η => ?_); simp only [go_sem, simprocAttr, Nat.le_refl, h1']; refine η _ ?_; clear η κ) | (refine r_nil (hK _ ?_); clear hE hK E K) | refine q_seq ?_ | refine c_cond true rfl (fun _ => ?_) (fun h => (by cases h)) | refine c_ret ?_ | refine q_seqR ?_ | (refine q_ret ?_; refine q_r1 ?_; simp only [go_sem, simprocAttr, Nat.le_refl, h1'])
      have h1' := eq_false h1
      obtain ⟨hm, hz⟩ := (checkO_iff c).1 h0
      have hbl := beg_len c.las picks c.las.length
      generalize beg c.las picks c.las.length = B0 at *
      have hrp := List.reverse_perm c.gts
      have hr1 := srun_ct Hy c B0 seq hr hgo hlo
      obtain ⟨hp0, hp1, hp2⟩ := run_same_perm hm hz hrp (st := B0) (seq := seq) hbl
      have hrd : CRoom ⟨c.ins, c.outs, c.las, c.gts.reverse⟩ := ⟨hr.ins, hr.outs, hr.las, by have := hr.gts; simpa using this⟩
      have hr2 := fun (o : Nat → O) => Cm.of_ct (o := o) (srun_ct Hy ⟨c.ins, c.outs, c.las, c.gts.reverse⟩ B0 seq hrd (fun g hg => hgo g (hrp.mem_iff.1 hg)) hlo)
      rw [hp1, hp2] at hr2
      have htr := otrim_ct Hy c hr hgo hlo
      rw [trimC_is hm] at htr
      obtain ⟨ht1, ht2⟩ := run_same_trim hm hz (st := B0) (seq := seq) hbl
      have hrt : CRoom (trimD c) := ⟨hr.ins, hr.outs, Nat.le_trans (List.length_filter_le _ _) hr.las, Nat.le_trans (List.length_filter_le _ _) hr.gts⟩
      have hr3 := fun (o : Nat → O) => Cm.of_ct (o := o) (srun_ct Hy (trimD c) (leftL (keepB c) c.las B0) seq hrt (fun g hg => hgo g (List.mem_filter.1 hg).1) (fun x hx => hlo x (List.mem_filter.1 hx).1))
      rw [ht1, ht2] at hr3
      obtain ⟨hol, hoe⟩ := runC_len c B0 seq
      have q1 := hf.ins
      have q2 := hf.outs
      have q3 := hf.las
      have q4 := hf.gts
      have hro := rrows_ct Hy (runC c B0 seq).1 (runC c B0 seq).1 (fun x hx => by have := hoe x hx; omega) (fun x hx => by have := hoe x hx; omega) (by omega) (by omega)
      rw [decide_eq_true rfl] at hro
      have hfitT : CFit (trimD c) := (mok_of ((chk_iff _).2 (trimD_may hm))).fit
      have hpl := fun s => rplace_ct Hy (trimD c) s hfitT
      have hpk := fun x (hx : x ∈ c.las) => place_trim hm hx
      have hll := fun k => leftL_le (keepB c) (c.las.take k) B0
      have hlt := fun k x v => leftL_take (keepB c) c.las B0 k x v
      clear ht1 ht2 hp0 hp1 hp2 hrp hm hz hf hl hl2 hfitT h0
      generalize (runC ⟨c.ins, c.outs, c.las, c.gts.reverse⟩ B0 seq).2.1 = X2 at *
      generalize (runC (trimD c) (leftL (keepB c) c.las B0) seq).2.1 = X3 at *
      generalize (runC c B0 seq).2.1 = X1 at *
      generalize (runC c B0 seq).2.2 = E1 at *
      generalize (runC c B0 seq).1 = O1 at *
      generalize plC (trimD c) = PL at *
      generalize keepB c = KB at *
      generalize trimD c = TD_ at *
      obtain ⟨ins, outs, las, gts⟩ := c
      obtain ⟨i2, o2, l2, g2⟩ := TD_
      simp only [cE] at hfe hs1 hr1 hr2 htr hr3 hpl hpk hll hlt hbl q1 q2 q3 q4 ⊢
      have hrl : gts.reverse.length = gts.length := List.length_reverse
      generalize hgr : gts.reverse = GR at *
      have hrt2 : ∀ k g, gts[gts.length - 1 - k]? = some g → k < gts.length → gsR (GR.take (k + 1)) = gsR (GR.take k) ++ [[.s g.name, .i .i64 g.op, .sl (sR g.ins), .sl (rR g.rows), .b g.off]] := fun k g h hk => by rw [← hgr]; exact rev_take h hk
      refine ct_of (cls := _root_.id) tt_ok follows_ Tryd.func10 rfl (by decide) (Nat.le_of_ble_eq_true rfl) ?_
      rw [show Tryd.f10.ntmps = 142 from rfl, s0_nf]
      simp only [List.zipIdx_cons, List.zipIdx_nil, List.map_cons, List.map_nil, Nat.reduceAdd]
      repeat' first | refine c_seq ?_ | refine c_reg' rfl fun K E hK hE => ?_ | (refine r_opN fun κ η => ?_; simp only [go_sem, simprocAttr, Nat.le_refl]; refine η _ ?_; clear η κ) | (refine r_nil (hK _ ?_); clear hE hK E K) | refine q_seq ?_
      refine r_opN fun κ η => ?_; simp only [go_sem, simprocAttr, Nat.le_refl]; refine ⟨_, hw, ?_⟩; simp only [go_sem, simprocAttr, Nat.le_refl]; refine η _ ?_; clear η κ
      repeat' first | refine c_seq ?_ | refine c_reg' rfl fun K E hK hE => ?_ | (refine r_opN fun κ η => ?_; simp only [go_sem, simprocAttr, Nat.le_refl]; refine η _ ?_; clear η κ) | (refine r_nil (hK _ ?_); clear hE hK E K) | refine q_seq ?_ | refine c_cond false rfl (fun h => (by cases h)) fun _ => ?_ | refine c_skip ?_
      refine r_opN fun κ η => ?_; simp only [go_sem, simprocAttr, Nat.le_refl]; refine ⟨_, hfe, ?_⟩; simp only [go_sem, simprocAttr, Nat.le_refl]; refine η _ ?_; clear η κ
      repeat' ((first | refine r_opN fun κ η => ?_ | refine r_opG rfl fun κ η => ?_); simp only [go_sem, simprocAttr, Nat.le_refl]; refine η _ ?_; clear η κ)
      refine r_opG rfl fun κ η => ?_; simp only [go_sem, simprocAttr, Nat.le_refl]; refine ⟨_, hse, ?_⟩; simp only [go_sem, simprocAttr, Nat.le_refl]; refine η _ ?_; clear η κ
      repeat' first | refine c_seq ?_ | refine c_reg' rfl fun K E hK hE => ?_ | (refine r_opN fun κ η => ?_; simp only [go_sem, simprocAttr, Nat.le_refl]; refine η _ ?_; clear η κ) | (refine r_nil (hK _ ?_); clear hE hK E K) | refine q_seq ?_
      refine r_opN fun κ η => ?_; simp only [go_sem, simprocAttr, Nat.le_refl]; refine ⟨_, hs1, ?_⟩; simp only [go_sem, simprocAttr, Nat.le_refl]; refine η _ ?_; clear η κ
      repeat' first | refine c_seq ?_ | refine c_reg' rfl fun K E hK hE => ?_ | ((first | refine r_opN fun κ η => ?_ | refine r_opG rfl fun κ η => ?_); simp only [go_sem, simprocAttr, Nat.le_refl, h1']; refine η _ ?_; clear η κ) | (refine r_nil (hK _ ?_); clear hE hK E K) | refine q_seq ?_ | refine c_cond false rfl (fun h => (by cases h)) fun _ => ?_ | refine c_skip ?_
      refine r_opN fun κ η => ?_; simp only [go_sem, simprocAttr, Nat.le_refl]; refine ⟨_, hr1, ?_⟩; simp only [go_sem, simprocAttr, Nat.le_refl]; refine η _ ?_; clear η κ
      repeat' first | (refine r_opN fun κ η => ?_; simp only [go_sem, simprocAttr, Nat.le_refl]; refine η _ ?_; clear η κ) | (refine r_nil (hK _ ?_); clear hE hK E K) | refine q_seq ?_
      refine c_seq ?_
      repeat' first | refine c_reg' rfl fun K E hK hE => ?_ | (refine r_opN fun κ η => ?_; simp only [go_sem, simprocAttr, Nat.le_refl]; refine η _ ?_; clear η κ) | (refine r_nil (hK _ ?_); clear hE hK E K) | refine q_seq ?_
      refine c_seq ?_
      repeat' first | refine c_reg' rfl fun K E hK hE => ?_ | (refine r_opN fun κ η => ?_; simp only [go_sem, simprocAttr, Nat.le_refl]; (repeat refine ⟨by omega, ?_⟩); refine η _ ?_; clear η κ) | (refine r_nil (hK _ ?_); clear hE hK E K) | refine q_seq ?_
      refine c_cut (fun s => ∃ F G0 yy, s = nf 142 F G0 [(1, .t (.sl (bb seq))), (3, .ptr 3 1 0), (7, .t (.b true)), (9, .t (.sl (bl B0))), (11, .t (.sl (bb O1))), (13, .t (.i .i64 E1)), (14, .ptr 14 1 0)] [] ∧ G0 3 = ⟨1, .cells 26 [.t (.sl (sR ins)), .t (.sl (sR outs)), .t (.sl (lsR las)), .t (.sl (gsR gts))]⟩ ∧ G0 14 = ⟨1, .cells 26 [.t (.sl (sR ins)), .t (.sl (sR outs)), .t (.sl (lsR las)), yy]⟩ ∧ Acc G0 78 45 5 (gsR GR) yy) ?_ ?_
      rotate_left
      · intro N hN
        repeat' first | refine c_seq ?_ | refine c_block ?_ | refine c_reg' rfl fun K E hK hE => ?_ | (refine r_opN fun κ η => ?_; simp only [go_sem, simprocAttr, Nat.le_refl]; (repeat refine ⟨by omega, ?_⟩); refine η _ ?_; clear η κ) | (refine r_nil (hK _ ?_); clear hE hK E K) | refine q_seq ?_
        refine c_loop (fun m s' => ∃ k : Nat, m = gts.length - k ∧ k ≤ gts.length ∧ ∃ F G0 yy, s' = nf 142 F G0 [(1, .t (.sl (bb seq))), (3, .ptr 3 1 0), (7, .t (.b true)), (9, .t (.sl (bl B0))), (11, .t (.sl (bb O1))), (13, .t (.i .i64 E1)), (14, .ptr 14 1 0), (15, .t (.i .i64 ((gts.length : Int) - 1 - k)))] [] ∧ G0 3 = ⟨1, .cells 26 [.t (.sl (sR ins)), .t (.sl (sR outs)), .t (.sl (lsR las)), .t (.sl (gsR gts))]⟩ ∧ G0 14 = ⟨1, .cells 26 [.t (.sl (sR ins)), .t (.sl (sR outs)), .t (.sl (lsR las)), yy]⟩ ∧ Acc G0 78 45 5 (gsR (GR.take k)) yy) gts.length ?_ ?_
        · exact ⟨0, by omega, by omega, _, _, _, nf_of rfl ⟨rfl, rfl, rfl, rfl, rfl, rfl, rfl, congrArg (fun z : Int => A.t (.i .i64 z)) (by omega), trivial⟩ trivial, rfl, rfl, .inl ⟨rfl, rfl⟩⟩
        rintro m s' ⟨k, rfl, hk, F, G0, yy, rfl, b3, b14, hy⟩
        by_cases hd : k < gts.length
        · have hcast : ((gts.length : Int) - 1 - k) = ((gts.length - 1 - k : Nat) : Int) := by omega
          have hd' : ((0 : Int) ≤ ((gts.length - 1 - k : Nat) : Int)) = True := eq_true (by omega)
          obtain ⟨g, hg⟩ : ∃ g, gts[gts.length - 1 - k]? = some g := ⟨_, List.getElem?_eq_getElem (by omega)⟩
          have hg' := gsR_get hg
          have hsn := hrt2 k g hg hd
          have hlen : (gsR (GR.take k)).length ≤ 1000 := by rw [gsR_len, List.length_take]; omega
          generalize gsR (GR.take k) = rw0 at hsn hlen hy
          rw [hcast]
          rcases hy with ⟨y0, rfl⟩ | ⟨q', rfl, hr2'⟩
          · rw [y0] at hsn
            repeat' first | refine c_seq ?_ | refine c_block ?_ | refine c_reg' rfl fun K E hK hE => ?_ | refine c_draw' rfl (by kernel_rfl) fun K E hK hE => ?_ | ((first | refine r_opN fun κ η => ?_ | refine d_opN (by kernel_rfl) fun κ η => ?_); simp only [go_sem, simprocAttr, Nat.le_refl, b3, b14, hd', hg']; (repeat refine ⟨by omega, ?_⟩); refine η _ ?_; clear η κ) | (refine r_nil (hK _ ?_); clear hE hK E K) | refine q_seq ?_ | refine c_cond true rfl (fun _ => ?_) (fun h => (by cases h)) | (refine d_nil (hK _ ?_); clear hE hK E K) | refine q_blk ?_ | refine c_skip ?_ | refine q_lpN ?_
            exact ⟨gts.length - (k + 1), by omega, k + 1, rfl, by omega, _, _, _, nf_of rfl ⟨rfl, rfl, rfl, rfl, rfl, rfl, rfl, congrArg (fun z : Int => A.t (.i .i64 z)) (by omega), trivial⟩ trivial, b3, rfl, .inr ⟨_, rfl, by rw [hsn]; rfl⟩⟩
          · repeat' first | refine c_seq ?_ | refine c_block ?_ | refine c_reg' rfl fun K E hK hE => ?_ | refine c_draw' rfl (by kernel_rfl) fun K E hK hE => ?_ | ((first | refine r_opN fun κ η => ?_ | refine d_opN (by kernel_rfl) fun κ η => ?_); simp only [go_sem, simprocAttr, Nat.le_refl, b3, b14, hd', hg', hr2']; (repeat refine ⟨by omega, ?_⟩); refine η _ ?_; clear η κ) | (refine r_nil (hK _ ?_); clear hE hK E K) | refine q_seq ?_ | refine c_cond true rfl (fun _ => ?_) (fun h => (by cases h)) | (refine d_nil (hK _ ?_); clear hE hK E K) | refine q_blk ?_ | refine c_skip ?_ | refine q_lpN ?_
            exact ⟨gts.length - (k + 1), by omega, k + 1, rfl, by omega, _, _, _, nf_of rfl ⟨rfl, rfl, rfl, rfl, rfl, rfl, rfl, congrArg (fun z : Int => A.t (.i .i64 z)) (by omega), trivial⟩ trivial, b3, rfl, .inr ⟨_, rfl, by rw [hsn]; rfl⟩⟩
        have hd' : ((0 : Int) ≤ (gts.length : Int) - 1 - k) = False := eq_false (by omega)
        rw [List.take_of_length_le (by omega)] at hy
        repeat' first | refine c_seq ?_ | refine c_reg' rfl fun K E hK hE => ?_ | (refine r_opN fun κ η => ?_; simp only [go_sem, simprocAttr, Nat.le_refl, hd']; refine η _ ?_; clear η κ) | (refine r_nil (hK _ ?_); clear hE hK E K) | refine q_seq ?_ | refine c_cond false rfl (fun h => (by cases h)) fun _ => ?_ | refine c_exit ?_ | refine q_seqE ?_ | refine q_blkHit ?_ | refine q_lpE ?_
        exact hN _ ⟨_, _, _, nf_of rfl ⟨rfl, rfl, rfl, rfl, rfl, rfl, rfl, trivial⟩ trivial, b3, b14, hy⟩
      rintro s ⟨F, G0, yy, rfl, b3, b14, hy⟩
      refine c_cut (fun s => ∃ F G0, s = nf 142 F G0 [(1, .t (.sl (bb seq))), (3, .ptr 3 1 0), (7, .t (.b true)), (9, .t (.sl (bl B0))), (11, .t (.sl (bb O1))), (13, .t (.i .i64 E1)), (16, .t (.sl (bb O1))), (18, .t (.i .i64 E1))] [] ∧ G0 3 = ⟨1, .cells 26 [.t (.sl (sR ins)), .t (.sl (sR outs)), .t (.sl (lsR las)), .t (.sl (gsR gts))]⟩) ?_ ?_
      rotate_left
      · intro N hN
        rcases hy with ⟨y0, rfl⟩ | ⟨q', rfl, hr2'⟩
        · rw [y0] at hr2
          repeat' first | refine c_reg' rfl fun K E hK hE => ?_ | (refine r_opN fun κ η => ?_; simp only [go_sem, simprocAttr, Nat.le_refl, b3, b14]; refine η _ ?_; clear η κ)
          refine r_callF fun κ η => ?_; simp only [go_sem, simprocAttr, Nat.le_refl, b3, b14]; refine ⟨_, (hr2 _), ?_⟩; rintro _ _ ⟨rfl, rfl⟩; simp only [go_sem, simprocAttr, Nat.le_refl, b3, b14]; refine η _ ?_; clear η κ
          repeat' first | (refine r_opN fun κ η => ?_; simp only [go_sem, simprocAttr, Nat.le_refl]; refine η _ ?_; clear η κ) | (refine r_nil (hK _ ?_); clear hE hK E K) | refine q_seq ?_
          exact hN _ ⟨_, _, nf_of rfl ⟨rfl, rfl, rfl, rfl, rfl, rfl, rfl, rfl, trivial⟩ trivial, b3⟩
        · repeat' first | refine c_reg' rfl fun K E hK hE => ?_ | (refine r_opN fun κ η => ?_; simp only [go_sem, simprocAttr, Nat.le_refl, b3, b14, hr2']; refine η _ ?_; clear η κ)
          refine r_callF fun κ η => ?_; simp only [go_sem, simprocAttr, Nat.le_refl, b3, b14, hr2']; refine ⟨_, (hr2 _), ?_⟩; rintro _ _ ⟨rfl, rfl⟩; simp only [go_sem, simprocAttr, Nat.le_refl, b3, b14, hr2']; refine η _ ?_; clear η κ
          repeat' first | (refine r_opN fun κ η => ?_; simp only [go_sem, simprocAttr, Nat.le_refl]; refine η _ ?_; clear η κ) | (refine r_nil (hK _ ?_); clear hE hK E K) | refine q_seq ?_
          exact hN _ ⟨_, _, nf_of rfl ⟨rfl, rfl, rfl, rfl, rfl, rfl, rfl, rfl, trivial⟩ trivial, b3⟩
      clear b3 b14 hy hr2 hrt2
      rintro s ⟨F, G0, rfl, b3⟩
      refine c_seq ?_
      repeat' first | refine c_reg' rfl fun K E hK hE => ?_ | (refine r_opN fun κ η => ?_; simp only [go_sem, simprocAttr, Nat.le_refl, b3]; refine η _ ?_; clear η κ)
      refine r_opN fun κ η => ?_; simp only [go_sem, simprocAttr, Nat.le_refl]; refine ⟨_, htr, ?_⟩; simp only [go_sem, simprocAttr, Nat.le_refl]; refine η _ ?_; clear η κ
      repeat' first | (refine r_opN fun κ η => ?_; simp only [go_sem, simprocAttr, Nat.le_refl]; refine η _ ?_; clear η κ) | (refine r_nil (hK _ ?_); clear hE hK E K) | refine q_seq ?_
      refine c_seq ?_
      repeat' first | refine c_reg' rfl fun K E hK hE => ?_ | (refine r_opN fun κ η => ?_; simp only [go_sem, simprocAttr, Nat.le_refl]; refine η _ ?_; clear η κ) | (refine r_nil (hK _ ?_); clear hE hK E K) | refine q_seq ?_
      refine c_cut (fun s => ∃ F G0 g19, s = nf 142 F G0 [(1, .t (.sl (bb seq))), (3, .ptr 3 1 0), (7, .t (.b true)), (9, .t (.sl (bl B0))), (11, .t (.sl (bb O1))), (13, .t (.i .i64 E1)), (16, .t (.sl (bb O1))), (18, .t (.i .i64 E1)), (19, .ptr 19 g19 0), (20, .t (.sl (bl (leftL KB las B0))))] [] ∧ G0 19 = ⟨g19, .cells 26 [.t (.sl (sR i2)), .t (.sl (sR o2)), .t (.sl (lsR l2)), .t (.sl (gsR g2))]⟩) ?_ ?_
      rotate_left
      · intro N hN
        repeat' first | refine c_seq ?_ | refine c_block ?_ | refine c_reg' rfl fun K E hK hE => ?_ | (refine r_opN fun κ η => ?_; simp only [go_sem, simprocAttr, Nat.le_refl]; refine η _ ?_; clear η κ) | (refine r_nil (hK _ ?_); clear hE hK E K) | refine q_seq ?_
        refine c_loop (fun m s' => ∃ k : Nat, m = las.length - k ∧ k ≤ las.length ∧ ∃ F G0 g19 yy, s' = nf 142 F G0 [(1, .t (.sl (bb seq))), (3, .ptr 3 1 0), (7, .t (.b true)), (9, .t (.sl (bl B0))), (11, .t (.sl (bb O1))), (13, .t (.i .i64 E1)), (16, .t (.sl (bb O1))), (18, .t (.i .i64 E1)), (19, .ptr 19 g19 0), (20, yy), (21, .t (.i .i64 k))] [] ∧ G0 3 = ⟨1, .cells 26 [.t (.sl (sR ins)), .t (.sl (sR outs)), .t (.sl (lsR las)), .t (.sl (gsR gts))]⟩ ∧ G0 19 = ⟨g19, .cells 26 [.t (.sl (sR i2)), .t (.sl (sR o2)), .t (.sl (lsR l2)), .t (.sl (gsR g2))]⟩ ∧ Acc G0 112 4 1 (bl (leftL KB (las.take k) B0)) yy) las.length ?_ ?_
        · exact ⟨0, by omega, by omega, _, _, _, _, nf_of rfl ⟨rfl, rfl, rfl, rfl, rfl, rfl, rfl, rfl, rfl, rfl, rfl, trivial⟩ trivial, b3, rfl, .inl ⟨by cases B0 <;> rfl, rfl⟩⟩
        clear b3
        rintro m s' ⟨k, rfl, hk, F, G0, g19, yy, rfl, b3, b19, hy⟩
        have hlen : (bl (leftL KB (las.take k) B0)).length ≤ 1000 := by rw [bl_len]; have := hll k; rw [List.length_take] at this; omega
        by_cases hd : k < las.length
        · have hd' : ((k : Int) < las.length) = True := eq_true (by omega)
          obtain ⟨x, hx⟩ : ∃ x, las[k]? = some x := ⟨_, List.getElem?_eq_getElem hd⟩
          obtain ⟨v, hv⟩ : ∃ v, B0[k]? = some v := ⟨_, List.getElem?_eq_getElem (by omega)⟩
          have hx' := lsR_get hx
          have hv' := bl_get hv
          have hpx := hpl x.name
          have hpkx := hpk x (List.mem_of_getElem? hx)
          have hlx := hlt k x v hx hv
          cases hkb : KB x.name with
          | true =>
            rw [hkb] at hpkx
            rw [hkb, if_pos rfl] at hlx
            have hge : ((0 : Int) ≤ PL x.name) = True := eq_true (of_decide_eq_true hpkx)
            have hsn : bl (leftL KB (las.take (k + 1)) B0) = bl (leftL KB (las.take k) B0) ++ [[.b v]] := by rw [hlx, bl_app]; rfl
            generalize bl (leftL KB (las.take k) B0) = rw0 at hsn hlen hy
            rcases hy with ⟨y0, rfl⟩ | ⟨q', rfl, hr2'⟩
            · rw [y0] at hsn
              repeat' first | refine c_seq ?_ | refine c_block ?_ | refine c_reg' rfl fun K E hK hE => ?_ | refine c_draw' rfl (by kernel_rfl) fun K E hK hE => ?_ | ((first | refine r_opN fun κ η => ?_ | refine d_opN (by kernel_rfl) fun κ η => ?_); simp only [go_sem, simprocAttr, Nat.le_refl, b3, b19, hd', hx']; (repeat refine ⟨by omega, ?_⟩); refine η _ ?_; clear η κ) | (refine r_nil (hK _ ?_); clear hE hK E K) | refine q_seq ?_ | refine c_cond true rfl (fun _ => ?_) (fun h => (by cases h)) | refine c_skip ?_
              refine d_opN (by kernel_rfl) fun κ η => ?_; simp only [go_sem, simprocAttr, Nat.le_refl]; refine ⟨_, hpx, ?_⟩; simp only [go_sem, simprocAttr, Nat.le_refl]; refine η _ ?_; clear η κ
              repeat' first | refine c_reg' rfl fun K E hK hE => ?_ | ((first | refine r_opN fun κ η => ?_ | refine d_opN (by kernel_rfl) fun κ η => ?_); simp only [go_sem, simprocAttr, Nat.le_refl, hge, hv']; (repeat refine ⟨by omega, ?_⟩); refine η _ ?_; clear η κ) | (refine r_nil (hK _ ?_); clear hE hK E K) | refine q_seq ?_ | refine c_cond true rfl (fun _ => ?_) (fun h => (by cases h)) | (refine d_nil (hK _ ?_); clear hE hK E K) | refine q_blk ?_ | refine q_lpN ?_
              exact ⟨las.length - (k + 1), by omega, k + 1, rfl, by omega, _, _, _, _, nf_of rfl ⟨rfl, rfl, rfl, rfl, rfl, rfl, rfl, rfl, rfl, rfl, rfl, trivial⟩ trivial, b3, b19, .inr ⟨_, rfl, by rw [hsn]; rfl⟩⟩
            · repeat' first | refine c_seq ?_ | refine c_block ?_ | refine c_reg' rfl fun K E hK hE => ?_ | refine c_draw' rfl (by kernel_rfl) fun K E hK hE => ?_ | ((first | refine r_opN fun κ η => ?_ | refine d_opN (by kernel_rfl) fun κ η => ?_); simp only [go_sem, simprocAttr, Nat.le_refl, b3, b19, hd', hx']; (repeat refine ⟨by omega, ?_⟩); refine η _ ?_; clear η κ) | (refine r_nil (hK _ ?_); clear hE hK E K) | refine q_seq ?_ | refine c_cond true rfl (fun _ => ?_) (fun h => (by cases h)) | refine c_skip ?_
              refine d_opN (by kernel_rfl) fun κ η => ?_; simp only [go_sem, simprocAttr, Nat.le_refl]; refine ⟨_, hpx, ?_⟩; simp only [go_sem, simprocAttr, Nat.le_refl]; refine η _ ?_; clear η κ
              repeat' first | refine c_reg' rfl fun K E hK hE => ?_ | ((first | refine r_opN fun κ η => ?_ | refine d_opN (by kernel_rfl) fun κ η => ?_); simp only [go_sem, simprocAttr, Nat.le_refl, hge, hv', hr2']; (repeat refine ⟨by omega, ?_⟩); refine η _ ?_; clear η κ) | (refine r_nil (hK _ ?_); clear hE hK E K) | refine q_seq ?_ | refine c_cond true rfl (fun _ => ?_) (fun h => (by cases h)) | (refine d_nil (hK _ ?_); clear hE hK E K) | refine q_blk ?_ | refine q_lpN ?_
              exact ⟨las.length - (k + 1), by omega, k + 1, rfl, by omega, _, _, _, _, nf_of rfl ⟨rfl, rfl, rfl, rfl, rfl, rfl, rfl, rfl, rfl, rfl, rfl, trivial⟩ trivial, b3, b19, .inr ⟨_, rfl, by rw [hsn]; rfl⟩⟩
          | false =>
            rw [hkb] at hpkx
            rw [hkb, if_neg (by decide), List.append_nil] at hlx
            have hge : ((0 : Int) ≤ PL x.name) = False := eq_false (of_decide_eq_false hpkx)
            repeat' first | refine c_seq ?_ | refine c_block ?_ | refine c_reg' rfl fun K E hK hE => ?_ | refine c_draw' rfl (by kernel_rfl) fun K E hK hE => ?_ | ((first | refine r_opN fun κ η => ?_ | refine d_opN (by kernel_rfl) fun κ η => ?_); simp only [go_sem, simprocAttr, Nat.le_refl, b3, b19, hd', hx']; (repeat refine ⟨by omega, ?_⟩); refine η _ ?_; clear η κ) | (refine r_nil (hK _ ?_); clear hE hK E K) | refine q_seq ?_ | refine c_cond true rfl (fun _ => ?_) (fun h => (by cases h)) | refine c_skip ?_
            refine d_opN (by kernel_rfl) fun κ η => ?_; simp only [go_sem, simprocAttr, Nat.le_refl]; refine ⟨_, hpx, ?_⟩; simp only [go_sem, simprocAttr, Nat.le_refl]; refine η _ ?_; clear η κ
            repeat' first | refine c_reg' rfl fun K E hK hE => ?_ | ((first | refine r_opN fun κ η => ?_ | refine d_opN (by kernel_rfl) fun κ η => ?_); simp only [go_sem, simprocAttr, Nat.le_refl, hge]; (repeat refine ⟨by omega, ?_⟩); refine η _ ?_; clear η κ) | (refine r_nil (hK _ ?_); clear hE hK E K) | refine q_seq ?_ | refine c_cond false rfl (fun h => (by cases h)) fun _ => ?_ | (refine d_nil (hK _ ?_); clear hE hK E K) | refine q_blk ?_ | refine c_skip ?_ | refine q_lpN ?_
            exact ⟨las.length - (k + 1), by omega, k + 1, rfl, by omega, _, _, _, _, nf_of rfl ⟨rfl, rfl, rfl, rfl, rfl, rfl, rfl, rfl, rfl, rfl, rfl, trivial⟩ trivial, b3, b19, by rw [hlx]; exact hy⟩
        have hd' : ((k : Int) < las.length) = False := eq_false (by omega)
        rw [List.take_of_length_le (by omega)] at hy
        rcases hy with ⟨y0, rfl⟩ | ⟨q', rfl, hr2'⟩
        · skip
          repeat' first | refine c_seq ?_ | refine c_reg' rfl fun K E hK hE => ?_ | (refine r_opN fun κ η => ?_; simp only [go_sem, simprocAttr, Nat.le_refl, hd', b3]; (repeat refine ⟨by omega, ?_⟩); refine η _ ?_; clear η κ) | (refine r_nil (hK _ ?_); clear hE hK E K)
          refine q_seq ?_
          repeat' first | refine c_cond false rfl (fun h => (by cases h)) fun _ => ?_ | refine c_exit ?_ | refine q_seqE ?_ | refine q_blkHit ?_ | refine q_lpE ?_
          refine q_frz 20 (by decide) (t0 := ?zt1) (up0 := ?zu1) ?zf1 ?zh1; (case zf1 => simp only [go_sem, simprocAttr, Nat.le_refl]; (repeat' apply And.intro) <;> first | rfl | assumption | decide); simp only [List.reverse_cons, List.reverse_nil, List.nil_append, List.cons_append]
          exact hN _ ⟨_, _, _, nf_of rfl ⟨rfl, rfl, rfl, rfl, rfl, rfl, rfl, rfl, rfl, by rw [y0]; rfl, trivial⟩ trivial, b19⟩
        · skip
          repeat' first | refine c_seq ?_ | refine c_reg' rfl fun K E hK hE => ?_ | (refine r_opN fun κ η => ?_; simp only [go_sem, simprocAttr, Nat.le_refl, hd', b3]; (repeat refine ⟨by omega, ?_⟩); refine η _ ?_; clear η κ) | (refine r_nil (hK _ ?_); clear hE hK E K)
          refine q_seq ?_
          repeat' first | refine c_cond false rfl (fun h => (by cases h)) fun _ => ?_ | refine c_exit ?_ | refine q_seqE ?_ | refine q_blkHit ?_ | refine q_lpE ?_
          refine q_frz 20 (by decide) (t0 := ?zt2) (up0 := ?zu2) ?zf2 ?zh2; (case zf2 => simp only [go_sem, simprocAttr, Nat.le_refl, hr2']; (repeat' apply And.intro) <;> first | rfl | assumption | decide); simp only [List.reverse_cons, List.reverse_nil, List.nil_append, List.cons_append]
          exact hN _ ⟨_, _, _, nf_of rfl ⟨rfl, rfl, rfl, rfl, rfl, rfl, rfl, rfl, rfl, rfl, trivial⟩ trivial, b19⟩
      clear b3 htr hpl hpk hlt hll
      rintro s ⟨F, G0, g19, rfl, b19⟩
      repeat' first | refine c_seq ?_ | refine c_reg' rfl fun K E hK hE => ?_ | (refine r_opN fun κ η => ?_; simp only [go_sem, simprocAttr, Nat.le_refl, b19]; refine η _ ?_; clear η κ)
      refine r_callF fun κ η => ?_; simp only [go_sem, simprocAttr, Nat.le_refl, b19]; refine ⟨_, (hr3 _), ?_⟩; rintro _ _ ⟨rfl, rfl⟩; simp only [go_sem, simprocAttr, Nat.le_refl, b19]; refine η _ ?_; clear η κ
      repeat' first | refine c_seq ?_ | refine c_reg' rfl fun K E hK hE => ?_ | ((first | refine r_opN fun κ η => ?_ | refine r_opG rfl fun κ η => ?_); simp only [go_sem, simprocAttr, Nat.le_refl, eq_self, decide_true]; refine η _ ?_; clear η κ) | (refine r_nil (hK _ ?_); clear hE hK E K) | refine q_seq ?_
      refine r_opG rfl fun κ η => ?_; simp only [go_sem, simprocAttr, Nat.le_refl]; refine ⟨_, hro, ?_⟩; simp only [go_sem, simprocAttr, Nat.le_refl]; refine η _ ?_; clear η κ
      repeat' ((first | refine r_opN fun κ η => ?_ | refine r_opG rfl fun κ η => ?_); simp only [go_sem, simprocAttr, Nat.le_refl]; refine η _ ?_; clear η κ)
      refine r_opG rfl fun κ η => ?_; simp only [go_sem, simprocAttr, Nat.le_refl]; refine ⟨_, hro, ?_⟩; simp only [go_sem, simprocAttr, Nat.le_refl]; refine η _ ?_; clear η κ
      repeat' first | (refine r_opN fun κ η => ?_; simp only [go_sem, simprocAttr, Nat.le_refl]; refine η _ ?_; clear η κ) | (refine r_nil (hK _ ?_); clear hE hK E K) | refine q_seq ?_ | refine c_ret ?_ | (refine q_ret ?_; refine q_r1 ?_; simp only [go_sem, simprocAttr, Nat.le_refl])
end Go.Proofs.YtbhoeanfnbkenaaDoor
