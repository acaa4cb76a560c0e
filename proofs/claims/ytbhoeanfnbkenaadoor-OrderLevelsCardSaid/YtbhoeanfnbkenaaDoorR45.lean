import Derived.Test.YtbhoeanfnbkenaaDoorR42
namespace Go.Proofs.YtbhoeanfnbkenaaDoor
open Go.RowKit
set_option maxRecDepth 100000
set_option linter.unusedSimpArgs false
variable (Hy : World → Prop)
attribute [local irreducible] runM runD cwp seqQ blkQ lpQ retQ asQ bdQ bdY retP endR preD retD
theorem gat_get3 {gs : List Gt} {k : Nat} (h : k < gs.length) : (gsR gs)[k]? = some [.s (gat gs k).name, .i .i64 (gat gs k).op, .sl (sR (gat gs k).ins), .sl (rR (gat gs k).rows), .b (gat gs k).off] := gsR_get (gat_get h)
set_option maxHeartbeats 16000000 in
theorem orderLevels_ct (c : Ci) (hr : CRoom c) (hgo : GOk c.gts) (hlo : LOk c.las) : Ct Tryd.prog Hy 7 [.ag (cE c)] [.b true] := by
  have hw := works07_ct Hy
  have hfe := few_ct Hy c
  have hck := ocheck_ct Hy c hr hgo hlo
  cases hl : fewC c with
  | false =>
    rw [hl] at hfe
    obtain ⟨ins, outs, las, gts⟩ := c
    simp only [cE] at hfe hck ⊢
    refine ct_of (cls := _root_.id) tt_ok follows_ Tryd.func7 rfl (by decide) (Nat.le_of_ble_eq_true rfl) ?_
    rw [show Tryd.f7.ntmps = 97 from rfl, s0_nf]
    simp only [List.zipIdx_cons, List.zipIdx_nil, List.map_cons, List.map_nil, Nat.reduceAdd]
    repeat' first | refine c_seq ?_ | refine c_reg' rfl fun K E hK hE => ?_ | (refine r_opN fun κ η => ?_; simp only [go_sem, simprocAttr, Nat.le_refl]; refine η _ ?_; clear η κ) | (refine r_nil (hK _ ?_); clear hE hK E K) | refine q_seq ?_
    refine r_opN fun κ η => ?_; simp only [go_sem, simprocAttr, Nat.le_refl]; refine ⟨_, hw, ?_⟩; simp only [go_sem, simprocAttr, Nat.le_refl]; refine η _ ?_; clear η κ
    repeat' first | refine c_seq ?_ | refine c_reg' rfl fun K E hK hE => ?_ | (refine r_opN fun κ η => ?_; simp only [go_sem, simprocAttr, Nat.le_refl]; refine η _ ?_; clear η κ) | (refine r_nil (hK _ ?_); clear hE hK E K) | refine q_seq ?_ | refine c_cond false rfl (fun h => (by cases h)) fun _ => ?_ | refine c_skip ?_
    refine r_opN fun κ η => ?_; simp only [go_sem, simprocAttr, Nat.le_refl]; refine ⟨_, hfe, ?_⟩; simp only [go_sem, simprocAttr, Nat.le_refl]; refine η _ ?_; clear η κ
    repeat' first | refine c_seq ?_ | refine c_reg' rfl fun K E hK hE => ?_ | (refine r_opN fun κ η => ?_; simp only [go_sem, simprocAttr, Nat.le_refl]; refine η _ ?_; clear η κ) | (refine r_nil (hK _ ?_); clear hE hK E K) | refine q_seq ?_
    refine r_opN fun κ η => ?_; simp only [go_sem, simprocAttr, Nat.le_refl]; refine ⟨_, hck, ?_⟩; simp only [go_sem, simprocAttr, Nat.le_refl]; refine η _ ?_; clear η κ
    repeat' first | refine c_seq ?_ | refine c_reg' rfl fun K E hK hE => ?_ | ((first | refine r_opN fun κ η => ?_ | refine r_opG rfl fun κ η => ?_); simp only [go_sem, simprocAttr, Nat.le_refl]; refine η _ ?_; clear η κ) | (refine r_nil (hK _ ?_); clear hE hK E K) | refine q_seq ?_ | refine c_cond true rfl (fun _ => ?_) (fun h => (by cases h)) | refine c_ret ?_ | refine q_seqR ?_ | (refine q_ret ?_; refine q_r1 ?_; simp only [go_sem, simprocAttr, Nat.le_refl])
  | true =>
    rw [hl] at hfe
    by_cases h0 : (checkO c).1 = 0
    rotate_left
    · have h0' := eq_false h0
      obtain ⟨ins, outs, las, gts⟩ := c
      simp only [cE] at hfe hck ⊢
      refine ct_of (cls := _root_.id) tt_ok follows_ Tryd.func7 rfl (by decide) (Nat.le_of_ble_eq_true rfl) ?_
      rw [show Tryd.f7.ntmps = 97 from rfl, s0_nf]
      simp only [List.zipIdx_cons, List.zipIdx_nil, List.map_cons, List.map_nil, Nat.reduceAdd]
      repeat' first | refine c_seq ?_ | refine c_reg' rfl fun K E hK hE => ?_ | (refine r_opN fun κ η => ?_; simp only [go_sem, simprocAttr, Nat.le_refl]; refine η _ ?_; clear η κ) | (refine r_nil (hK _ ?_); clear hE hK E K) | refine q_seq ?_
      refine r_opN fun κ η => ?_; simp only [go_sem, simprocAttr, Nat.le_refl]; refine ⟨_, hw, ?_⟩; simp only [go_sem, simprocAttr, Nat.le_refl]; refine η _ ?_; clear η κ
      repeat' first | refine c_seq ?_ | refine c_reg' rfl fun K E hK hE => ?_ | (refine r_opN fun κ η => ?_; simp only [go_sem, simprocAttr, Nat.le_refl]; refine η _ ?_; clear η κ) | (refine r_nil (hK _ ?_); clear hE hK E K) | refine q_seq ?_ | refine c_cond false rfl (fun h => (by cases h)) fun _ => ?_ | refine c_skip ?_
      refine r_opN fun κ η => ?_; simp only [go_sem, simprocAttr, Nat.le_refl]; refine ⟨_, hfe, ?_⟩; simp only [go_sem, simprocAttr, Nat.le_refl]; refine η _ ?_; clear η κ
      repeat' first | refine c_seq ?_ | refine c_reg' rfl fun K E hK hE => ?_ | (refine r_opN fun κ η => ?_; simp only [go_sem, simprocAttr, Nat.le_refl]; refine η _ ?_; clear η κ) | (refine r_nil (hK _ ?_); clear hE hK E K) | refine q_seq ?_
      refine r_opN fun κ η => ?_; simp only [go_sem, simprocAttr, Nat.le_refl]; refine ⟨_, hck, ?_⟩; simp only [go_sem, simprocAttr, Nat.le_refl]; refine η _ ?_; clear η κ
      repeat' first | refine c_seq ?_ | refine c_reg' rfl fun K E hK hE => ?_ | ((first | refine r_opN fun κ η => ?_ | refine r_opG rfl fun κ η => ?_); simp only [go_sem, simprocAttr, Nat.le_refl, h0']; refine η _ ?_; clear η κ) | (refine r_nil (hK _ ?_); clear hE hK E K) | refine q_seq ?_ | refine c_cond true rfl (fun _ => ?_) (fun h => (by cases h)) | refine c_ret ?_ | refine q_seqR ?_ | (refine q_ret ?_; refine q_r1 ?_; simp only [go_sem, simprocAttr, Nat.le_refl, h0'])
    have h0' := eq_true h0
    have hf := few_get hl
    obtain ⟨hmay, hz⟩ := (checkO_iff c).1 h0
    have hm := hmay.may
    have hu := may_uniq hm
    have hlv := levels_ct Hy c hr hgo hlo
    rw [show levelsR c = lvL c.gts.length (lvG c.gts) from if_pos ((chk_iff c).2 hmay)] at hlv
    have hfix := fun i (hi : i < c.gts.length) => lvG_fix hu hz hi
    have hLB := lvG_bound hu
    have hpl := fun s => place_ct Hy c s ⟨by have := hf.ins; omega, by have := hf.outs; omega, by have := hf.las; omega, by have := hf.gts; omega⟩
    have hplb := fun s => pl_lo c s
    have hps := fun s k => pl_some (c := c) hm (s := s) (k := k)
    have hpn := fun s => pl_none (c := c) hm (s := s)
    have q1 := hf.ins
    have q2 := hf.las
    have q3 := hf.gts
    have q4 : ∀ k, k < c.gts.length → (gat c.gts k).ins.length ≤ 12 := fun k hk => (hf.tg _ (gat_ins hk)).2.2.1
    rw [nets_le] at hplb
    clear hmay hm hz hf hl hu
    have hnb := fun (l : List ByteArray) k => nIk_bound (gs := c.gts) (Int.natCast_nonneg c.gts.length) hLB l k
    have hns := fun (l : List ByteArray) k s => nIk_succ (gs := c.gts) (lv := lvG c.gts) (l := l) (k := k) (s := s)
    have hna := fun (l : List ByteArray) => nIk_all c.gts (lvG c.gts) l
    simp only [← hna] at hfix
    have hn0 : ∀ l, nIk c.gts (lvG c.gts) l 0 = 0 := fun l => rfl
    generalize plC c = PL at *
    generalize nIk c.gts (lvG c.gts) = NK at *
    generalize lvG c.gts = LV at *
    obtain ⟨ins, outs, las, gts⟩ := c
    simp only [cE] at hfe hck hlv hpl hplb hps hpn q1 q2 q3 q4 hfix hLB hnb hns ⊢
    refine ct_of (cls := _root_.id) tt_ok follows_ Tryd.func7 rfl (by decide) (Nat.le_of_ble_eq_true rfl) ?_
    rw [show Tryd.f7.ntmps = 97 from rfl, s0_nf]
    simp only [List.zipIdx_cons, List.zipIdx_nil, List.map_cons, List.map_nil, Nat.reduceAdd]
    repeat' first | refine c_seq ?_ | refine c_reg' rfl fun K E hK hE => ?_ | (refine r_opN fun κ η => ?_; simp only [go_sem, simprocAttr, Nat.le_refl]; refine η _ ?_; clear η κ) | (refine r_nil (hK _ ?_); clear hE hK E K) | refine q_seq ?_
    refine r_opN fun κ η => ?_; simp only [go_sem, simprocAttr, Nat.le_refl]; refine ⟨_, hw, ?_⟩; simp only [go_sem, simprocAttr, Nat.le_refl]; refine η _ ?_; clear η κ
    repeat' first | refine c_seq ?_ | refine c_reg' rfl fun K E hK hE => ?_ | (refine r_opN fun κ η => ?_; simp only [go_sem, simprocAttr, Nat.le_refl]; refine η _ ?_; clear η κ) | (refine r_nil (hK _ ?_); clear hE hK E K) | refine q_seq ?_ | refine c_cond false rfl (fun h => (by cases h)) fun _ => ?_ | refine c_skip ?_
    refine r_opN fun κ η => ?_; simp only [go_sem, simprocAttr, Nat.le_refl]; refine ⟨_, hfe, ?_⟩; simp only [go_sem, simprocAttr, Nat.le_refl]; refine η _ ?_; clear η κ
    repeat' first | refine c_seq ?_ | refine c_reg' rfl fun K E hK hE => ?_ | (refine r_opN fun κ η => ?_; simp only [go_sem, simprocAttr, Nat.le_refl]; refine η _ ?_; clear η κ) | (refine r_nil (hK _ ?_); clear hE hK E K) | refine q_seq ?_
    refine r_opN fun κ η => ?_; simp only [go_sem, simprocAttr, Nat.le_refl]; refine ⟨_, hck, ?_⟩; simp only [go_sem, simprocAttr, Nat.le_refl]; refine η _ ?_; clear η κ
    repeat' first | refine c_seq ?_ | refine c_reg' rfl fun K E hK hE => ?_ | ((first | refine r_opN fun κ η => ?_ | refine r_opG rfl fun κ η => ?_); simp only [go_sem, simprocAttr, Nat.le_refl, h0']; refine η _ ?_; clear η κ) | (refine r_nil (hK _ ?_); clear hE hK E K) | refine q_seq ?_ | refine c_cond false rfl (fun h => (by cases h)) fun _ => ?_ | refine c_skip ?_
    refine r_opN fun κ η => ?_; simp only [go_sem, simprocAttr, Nat.le_refl]; refine ⟨_, hlv, ?_⟩; simp only [go_sem, simprocAttr, Nat.le_refl]; refine η _ ?_; clear η κ
    repeat' first | refine c_seq ?_ | refine c_block ?_ | refine c_reg' rfl fun K E hK hE => ?_ | (refine r_opN fun κ η => ?_; simp only [go_sem, simprocAttr, Nat.le_refl, eq_self, decide_true]; (repeat refine ⟨by omega, ?_⟩); refine η _ ?_; clear η κ) | (refine r_nil (hK _ ?_); clear hE hK E K) | refine q_seq ?_ | refine c_cond false rfl (fun h => (by cases h)) fun _ => ?_ | refine c_skip ?_
    refine c_loop (fun m s' => ∃ i : Nat, m = gts.length - i ∧ i ≤ gts.length ∧ ∃ F G0, s' = nf 97 F G0 [(1, .ptr 1 1 0), (3, .t (.b true)), (7, .t (.sl (iR (lvL gts.length LV)))), (8, .t (.i .i64 ((ins.length : Int) + las.length))), (9, .t (.i .i64 i))] [] ∧ G0 1 = ⟨1, .cells 26 [.t (.sl (sR ins)), .t (.sl (sR outs)), .t (.sl (lsR las)), .t (.sl (gsR gts))]⟩) gts.length ?_ ?_
    · exact ⟨0, by omega, by omega, _, _, nf_of rfl ⟨rfl, rfl, rfl, rfl, rfl, trivial⟩ trivial, rfl⟩
    rintro m s' ⟨i, rfl, hi, F, G0, rfl, b1⟩
    by_cases hdi : i < gts.length
    · have hd' : ((i : Int) < gts.length) = True := eq_true (by omega)
      have hg' := gat_get3 hdi
      have hli := lvL_get (lv := LV) hdi
      have hfi := hfix i hdi
      have hq4 := q4 i hdi
      have hnI := hn0 (gat gts i).ins
      have hnB := hnb (gat gts i).ins
      have hnS := hns (gat gts i).ins
      generalize gat gts i = g at *
      repeat' first | refine c_seq ?_ | refine c_block ?_ | refine c_reg' rfl fun K E hK hE => ?_ | (refine r_opN fun κ η => ?_; simp only [go_sem, simprocAttr, Nat.le_refl, b1, hd']; refine η _ ?_; clear η κ) | (refine r_nil (hK _ ?_); clear hE hK E K) | refine q_seq ?_ | refine c_cond true rfl (fun _ => ?_) (fun h => (by cases h)) | refine c_skip ?_
      refine c_loop (fun m s' => ∃ p : Nat, m = g.ins.length - p ∧ p ≤ g.ins.length ∧ ∃ F G1, s' = nf 97 F G1 [(1, .ptr 1 1 0), (3, .t (.b true)), (7, .t (.sl (iR (lvL gts.length LV)))), (8, .t (.i .i64 ((ins.length : Int) + las.length))), (9, .t (.i .i64 i)), (10, .t (.i .i64 (NK g.ins p))), (11, .t (.i .i64 p))] [] ∧ G1 1 = ⟨1, .cells 26 [.t (.sl (sR ins)), .t (.sl (sR outs)), .t (.sl (lsR las)), .t (.sl (gsR gts))]⟩) g.ins.length ?_ ?_
      · exact ⟨0, by omega, by omega, _, _, nf_of rfl ⟨rfl, rfl, rfl, rfl, rfl, by rw [hnI]; rfl, rfl, trivial⟩ trivial, b1⟩
      clear b1
      rintro m s' ⟨p, rfl, hp, F, G1, rfl, b1⟩
      by_cases hd : p < g.ins.length
      · have hd2 : ((p : Int) < g.ins.length) = True := eq_true (by omega)
        obtain ⟨s, hs⟩ : ∃ s, g.ins[p]? = some s := ⟨_, List.getElem?_eq_getElem hd⟩
        have hs' := sR_get hs
        have hpls := hpl s
        have hpb := hplb s
        have hb1 := hnB p
        have hsc := hnS p s hs
        cases hix : idxF gts s with
        | none =>
          rw [hix] at hsc
          have hpn' := hpn s hix
          have hneg : ((0 : Int) ≤ PL s - ((ins.length : Int) + las.length)) = False := eq_false (by omega)
          repeat' first | refine c_seq ?_ | refine c_block ?_ | refine c_reg' rfl fun K E hK hE => ?_ | refine c_draw' rfl (by kernel_rfl) fun K E hK hE => ?_ | ((first | refine r_opN fun κ η => ?_ | refine d_opN (by kernel_rfl) fun κ η => ?_); simp only [go_sem, simprocAttr, Nat.le_refl, b1, hg', hd2, hs']; (repeat refine ⟨by omega, ?_⟩); refine η _ ?_; clear η κ) | (refine r_nil (hK _ ?_); clear hE hK E K) | refine q_seq ?_ | refine c_cond true rfl (fun _ => ?_) (fun h => (by cases h)) | refine c_skip ?_
          refine d_opN (by kernel_rfl) fun κ η => ?_; simp only [go_sem, simprocAttr, Nat.le_refl]; refine ⟨_, hpls, ?_⟩; simp only [go_sem, simprocAttr, Nat.le_refl]; refine η _ ?_; clear η κ
          repeat' first | refine c_seq ?_ | refine c_reg' rfl fun K E hK hE => ?_ | ((first | refine r_opN fun κ η => ?_ | refine r_opG rfl fun κ η => ?_ | refine d_opN (by kernel_rfl) fun κ η => ?_); simp only [go_sem, simprocAttr, Nat.le_refl, b1, hneg]; (repeat refine ⟨by omega, ?_⟩); refine η _ ?_; clear η κ) | (refine r_nil (hK _ ?_); clear hE hK E K) | refine q_seq ?_ | refine c_cond false rfl (fun h => (by cases h)) fun _ => ?_ | (refine d_nil (hK _ ?_); clear hE hK E K) | refine q_blk ?_ | refine c_skip ?_ | refine q_lpN ?_
          exact ⟨g.ins.length - (p + 1), by omega, p + 1, rfl, by omega, _, _, nf_of rfl ⟨rfl, rfl, rfl, rfl, rfl, by rw [hsc]; rfl, rfl, trivial⟩ trivial, b1⟩
        | some j =>
          rw [hix] at hsc
          obtain ⟨hp1, hjl⟩ := hps s j hix
          have hsub : PL s - ((ins.length : Int) + las.length) = (j : Nat) := by omega
          have hj0 : ((0 : Int) ≤ (j : Nat)) = True := eq_true (by omega)
          have hj1 : (((j : Nat) : Int) < gts.length) = True := eq_true (by omega)
          have hlj := lvL_get (lv := LV) hjl
          have hjb := hLB j
          replace hsc : NK g.ins (p + 1) = if NK g.ins p < LV j + 1 then LV j + 1 else NK g.ins p := by
            rw [hsc]
            simp only
            split <;> omega
          repeat' first | refine c_seq ?_ | refine c_block ?_ | refine c_reg' rfl fun K E hK hE => ?_ | refine c_draw' rfl (by kernel_rfl) fun K E hK hE => ?_ | ((first | refine r_opN fun κ η => ?_ | refine d_opN (by kernel_rfl) fun κ η => ?_); simp only [go_sem, simprocAttr, Nat.le_refl, b1, hg', hd2, hs']; (repeat refine ⟨by omega, ?_⟩); refine η _ ?_; clear η κ) | (refine r_nil (hK _ ?_); clear hE hK E K) | refine q_seq ?_ | refine c_cond true rfl (fun _ => ?_) (fun h => (by cases h)) | refine c_skip ?_
          refine d_opN (by kernel_rfl) fun κ η => ?_; simp only [go_sem, simprocAttr, Nat.le_refl]; refine ⟨_, hpls, ?_⟩; simp only [go_sem, simprocAttr, Nat.le_refl]; refine η _ ?_; clear η κ
          repeat' first | refine c_seq ?_ | refine c_reg' rfl fun K E hK hE => ?_ | ((first | refine r_opN fun κ η => ?_ | refine r_opG rfl fun κ η => ?_ | refine d_opN (by kernel_rfl) fun κ η => ?_); simp only [go_sem, simprocAttr, Nat.le_refl, b1, hsub, hj0, hj1, hlj]; (repeat refine ⟨by omega, ?_⟩); refine η _ ?_; clear η κ) | (refine r_nil (hK _ ?_); clear hE hK E K) | refine q_seq ?_ | refine c_cond true rfl (fun _ => ?_) (fun h => (by cases h)) | (refine d_nil (hK _ ?_); clear hE hK E K) | refine q_blk ?_ | refine q_lpN ?_
          exact ⟨g.ins.length - (p + 1), by omega, p + 1, rfl, by omega, _, _, nf_of rfl ⟨rfl, rfl, rfl, rfl, rfl, by rw [hsc]; rfl, rfl, trivial⟩ trivial, b1⟩
      have hd2 : ((p : Int) < g.ins.length) = False := eq_false (by omega)
      obtain rfl : p = g.ins.length := by omega
      repeat' first | refine c_seq ?_ | refine c_reg' rfl fun K E hK hE => ?_ | (refine r_opN fun κ η => ?_; simp only [go_sem, simprocAttr, Nat.le_refl, b1, hg', hd2, hli, hfi, eq_self, decide_true]; (repeat refine ⟨by omega, ?_⟩); refine η _ ?_; clear η κ) | (refine r_nil (hK _ ?_); clear hE hK E K) | refine q_seq ?_ | refine c_cond false rfl (fun h => (by cases h)) fun _ => ?_ | refine q_blk ?_ | refine c_skip ?_ | refine c_exit ?_ | refine q_seqE ?_ | refine q_blkHit ?_ | refine q_lpE ?_ | refine q_lpN ?_
      exact ⟨gts.length - (i + 1), by omega, i + 1, rfl, by omega, _, _, nf_of rfl ⟨rfl, rfl, rfl, rfl, rfl, trivial⟩ trivial, b1⟩
    have hd' : ((i : Int) < gts.length) = False := eq_false (by omega)
    repeat' first | refine c_seq ?_ | refine c_reg' rfl fun K E hK hE => ?_ | (refine r_opN fun κ η => ?_; simp only [go_sem, simprocAttr, Nat.le_refl, b1, hd']; refine η _ ?_; clear η κ) | (refine r_nil (hK _ ?_); clear hE hK E K) | refine q_seq ?_ | refine c_cond false rfl (fun h => (by cases h)) fun _ => ?_ | refine c_exit ?_ | refine c_ret ?_ | refine q_seqE ?_ | refine q_blkHit ?_ | refine q_lpE ?_ | (refine q_ret ?_; refine q_r1 ?_; simp only [go_sem, simprocAttr, Nat.le_refl, b1, hd'])
end Go.Proofs.YtbhoeanfnbkenaaDoor
