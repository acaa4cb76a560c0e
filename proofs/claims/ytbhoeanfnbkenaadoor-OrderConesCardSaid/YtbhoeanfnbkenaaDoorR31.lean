import Derived.Test.YtbhoeanfnbkenaaDoorR30
import Derived.Test.YtbhoeanfnbkenaaDoorR24
namespace Go.Proofs.YtbhoeanfnbkenaaDoor
open Go.RowKit Go.WideMaps
set_option maxRecDepth 100000
set_option linter.unusedSimpArgs false
variable (Hy : World → Prop)
attribute [local irreducible] runM runD cwp seqQ blkQ lpQ retQ asQ bdQ bdY retP endR preD retD
set_option maxHeartbeats 8000000 in
theorem rtrim_ct (c : Ci) (hr : CRoom c) (hz : CSz c) : Ct Tryd.prog Hy 27 [.ag (cE c)] [.ag (cE (trimC c))] := by
  have hri := fun (o : Nat → O) => Cm.of_ct (o := o) (rright_ct Hy c hr hz)
  by_cases h0 : (checkC c).1 = 0
  · have hmo := mok_of h0
    obtain ⟨⟨l1, l2⟩, l3⟩ := limit_fit (chk_parts h0).1
    have hco := fun (o : Nat → O) => Cm.of_ct (o := o) (rcone_ct Hy c hr hz c.outs (by omega))
    have hce : coneC c c.outs = rconeL c c.outs := if_pos h0
    rw [hce] at hco
    have hcl : (rconeL c c.outs).length ≤ (netsC c).length := coP_len c _ _
    have hn2 := hmo.n2
    have hkd : ∀ s, usedB (rconeL c c.outs) s = keepB c s := fun _ => rfl
    have htr : trimC c = ⟨c.ins, c.outs, c.las.filter fun x => keepB c x.name, c.gts.filter fun g => keepB c g.name⟩ := if_pos h0
    rw [htr]
    rw [decide_eq_true h0] at hri
    have hhs := fun s => rHas_ct Hy (rconeL c c.outs) s (by omega)
    simp only [used_dec, hkd] at hhs
    clear hkd hcl hce hmo htr
    generalize keepB c = K0 at *
    generalize rconeL c c.outs = CL at *
    obtain ⟨ins, outs, las, gts⟩ := c
    simp only at l1 l2 l3 hco
    simp only [cE] at hri hco ⊢
    refine ct_of (cls := _root_.id) tt_ok follows_ Tryd.func27 rfl (by decide) (Nat.le_of_ble_eq_true rfl) ?_
    rw [show Tryd.f27.ntmps = 71 from rfl, s0_nf]
    simp only [List.zipIdx_cons, List.zipIdx_nil, List.map_cons, List.map_nil, Nat.reduceAdd, cE]
    repeat' first | refine c_seq ?_ | refine c_reg' rfl fun K E hK hE => ?_ | (refine r_opN fun κ η => ?_; simp only [go_sem, simprocAttr, Nat.le_refl]; refine η _ ?_; clear η κ) | (refine r_nil (hK _ ?_); clear hE hK E K) | refine q_seq ?_
    refine r_callF fun κ η => ?_; simp only [go_sem, simprocAttr, Nat.le_refl]; refine ⟨_, (hri _), ?_⟩; rintro _ _ ⟨rfl, rfl⟩; simp only [go_sem, simprocAttr, Nat.le_refl]; refine η _ ?_; clear η κ
    repeat' first | refine c_seq ?_ | refine c_reg' rfl fun K E hK hE => ?_ | (refine r_opN fun κ η => ?_; simp only [go_sem, simprocAttr, Nat.le_refl]; (repeat refine ⟨by omega, ?_⟩); refine η _ ?_; clear η κ) | (refine r_nil (hK _ ?_); clear hE hK E K) | refine q_seq ?_ | refine c_cond false rfl (fun h => (by cases h)) fun _ => ?_ | refine c_skip ?_
    refine r_callF fun κ η => ?_; simp only [go_sem, simprocAttr, Nat.le_refl]; refine ⟨_, (hco _), ?_⟩; rintro _ _ ⟨rfl, rfl⟩; simp only [go_sem, simprocAttr, Nat.le_refl]; refine η _ ?_; clear η κ
    repeat' first | refine c_seq ?_ | refine c_block ?_ | refine c_reg' rfl fun K E hK hE => ?_ | (refine r_opN fun κ η => ?_; simp only [go_sem, simprocAttr, Nat.le_refl]; (repeat refine ⟨by omega, ?_⟩); refine η _ ?_; clear η κ) | (refine r_nil (hK _ ?_); clear hE hK E K) | refine q_seq ?_
    refine c_loop (fun m s' => ∃ k : Nat, m = las.length - k ∧ k ≤ las.length ∧ ∃ F G0 yy, s' = nf 71 F G0 [(1, .ptr 1 1 0), (2, .ptr 2 1 0), (3, .t (.sl (sR CL))), (4, .ptr 4 1 0), (5, .t (.i .i64 k))] [] ∧ G0 1 = ⟨1, .cells 26 [.t (.sl (sR ins)), .t (.sl (sR outs)), .t (.sl (lsR las)), .t (.sl (gsR gts))]⟩ ∧ G0 2 = ⟨1, .cells 26 [.nilS, .nilS, .nilS, .nilS]⟩ ∧ G0 4 = ⟨1, .cells 26 [.t (.sl (sR ins)), .t (.sl (sR outs)), yy, .nilS]⟩ ∧ Acc G0 43 61 3 (lsR ((las.take k).filter fun x => K0 x.name)) yy) las.length ?_ ?_
    · exact ⟨0, by omega, by omega, _, _, _, nf_of rfl ⟨rfl, rfl, rfl, rfl, rfl, trivial⟩ trivial, rfl, rfl, rfl, .inl ⟨rfl, rfl⟩⟩
    rintro m s' ⟨k, rfl, hk, F, G0, yy, rfl, b1, b2, b4, hy⟩
    by_cases hd : k < las.length
    · have hd' : ((k : Int) < las.length) = True := eq_true (by omega)
      obtain ⟨x, hx⟩ : ∃ x, las[k]? = some x := ⟨_, List.getElem?_eq_getElem hd⟩
      have hx' := lsR_get hx
      have hh := hhs x.name
      have hst := filter_snoc (p := fun x : La => K0 x.name) hx
      have hlen : (lsR ((las.take k).filter fun x => K0 x.name)).length ≤ 1000000 := by
        have := filter_take_len las (fun x : La => K0 x.name) k
        rw [lsR_len]
        omega
      cases hKx : K0 x.name with
      | true =>
        rw [hKx] at hh
        rw [if_pos hKx] at hst
        have hs2 : lsR ((las.take (k + 1)).filter fun x => K0 x.name) = lsR ((las.take k).filter fun x => K0 x.name) ++ [[.s x.name, .s x.next, .i .i64 x.init]] := by rw [hst, lsR_app]; rfl
        rcases hy with ⟨y0, rfl⟩ | ⟨q', rfl, hr2⟩
        · rw [y0] at hs2
          repeat' first | refine c_seq ?_ | refine c_block ?_ | refine c_reg' rfl fun K E hK hE => ?_ | (refine r_opN fun κ η => ?_; simp only [go_sem, simprocAttr, Nat.le_refl, b1, hd', hx']; (repeat refine ⟨by omega, ?_⟩); refine η _ ?_; clear η κ) | (refine r_nil (hK _ ?_); clear hE hK E K) | refine q_seq ?_ | refine c_cond true rfl (fun _ => ?_) (fun h => (by cases h)) | refine c_skip ?_
          refine r_opN fun κ η => ?_; simp only [go_sem, simprocAttr, Nat.le_refl]; refine ⟨_, hh, ?_⟩; simp only [go_sem, simprocAttr, Nat.le_refl]; refine η _ ?_; clear η κ
          repeat' first | refine c_reg' rfl fun K E hK hE => ?_ | refine c_draw' rfl (by kernel_rfl) fun K E hK hE => ?_ | ((first | refine r_opN fun κ η => ?_ | refine d_opN (by kernel_rfl) fun κ η => ?_); simp only [go_sem, simprocAttr, Nat.le_refl, b1, b4, hx']; (repeat refine ⟨by omega, ?_⟩); refine η _ ?_; clear η κ) | (refine r_nil (hK _ ?_); clear hE hK E K) | refine q_seq ?_ | refine c_cond true rfl (fun _ => ?_) (fun h => (by cases h)) | (refine d_nil (hK _ ?_); clear hE hK E K) | refine q_blk ?_ | refine q_lpN ?_
          exact ⟨las.length - (k + 1), by omega, k + 1, rfl, by omega, _, _, _, nf_of rfl ⟨rfl, rfl, rfl, rfl, rfl, trivial⟩ trivial, b1, b2, rfl, .inr ⟨_, rfl, by rw [hs2]; rfl⟩⟩
        · generalize lsR ((las.take k).filter fun x => K0 x.name) = rw0 at hr2 hs2 hlen
          repeat' first | refine c_seq ?_ | refine c_block ?_ | refine c_reg' rfl fun K E hK hE => ?_ | (refine r_opN fun κ η => ?_; simp only [go_sem, simprocAttr, Nat.le_refl, b1, hd', hx']; (repeat refine ⟨by omega, ?_⟩); refine η _ ?_; clear η κ) | (refine r_nil (hK _ ?_); clear hE hK E K) | refine q_seq ?_ | refine c_cond true rfl (fun _ => ?_) (fun h => (by cases h)) | refine c_skip ?_
          refine r_opN fun κ η => ?_; simp only [go_sem, simprocAttr, Nat.le_refl]; refine ⟨_, hh, ?_⟩; simp only [go_sem, simprocAttr, Nat.le_refl]; refine η _ ?_; clear η κ
          repeat' first | refine c_reg' rfl fun K E hK hE => ?_ | refine c_draw' rfl (by kernel_rfl) fun K E hK hE => ?_ | ((first | refine r_opN fun κ η => ?_ | refine d_opN (by kernel_rfl) fun κ η => ?_); simp only [go_sem, simprocAttr, Nat.le_refl, b1, b4, hx', hr2]; (repeat refine ⟨by omega, ?_⟩); refine η _ ?_; clear η κ) | (refine r_nil (hK _ ?_); clear hE hK E K) | refine q_seq ?_ | refine c_cond true rfl (fun _ => ?_) (fun h => (by cases h)) | (refine d_nil (hK _ ?_); clear hE hK E K) | refine q_blk ?_ | refine q_lpN ?_
          exact ⟨las.length - (k + 1), by omega, k + 1, rfl, by omega, _, _, _, nf_of rfl ⟨rfl, rfl, rfl, rfl, rfl, trivial⟩ trivial, b1, b2, rfl, .inr ⟨_, rfl, by rw [hs2]; rfl⟩⟩
      | false =>
        rw [hKx] at hh
        rw [if_neg (by rw [hKx]; decide), List.append_nil] at hst
        repeat' first | refine c_seq ?_ | refine c_block ?_ | refine c_reg' rfl fun K E hK hE => ?_ | (refine r_opN fun κ η => ?_; simp only [go_sem, simprocAttr, Nat.le_refl, b1, hd', hx']; (repeat refine ⟨by omega, ?_⟩); refine η _ ?_; clear η κ) | (refine r_nil (hK _ ?_); clear hE hK E K) | refine q_seq ?_ | refine c_cond true rfl (fun _ => ?_) (fun h => (by cases h)) | refine c_skip ?_
        refine r_opN fun κ η => ?_; simp only [go_sem, simprocAttr, Nat.le_refl]; refine ⟨_, hh, ?_⟩; simp only [go_sem, simprocAttr, Nat.le_refl]; refine η _ ?_; clear η κ
        repeat' first | refine c_reg' rfl fun K E hK hE => ?_ | (refine r_opN fun κ η => ?_; simp only [go_sem, simprocAttr, Nat.le_refl]; (repeat refine ⟨by omega, ?_⟩); refine η _ ?_; clear η κ) | (refine r_nil (hK _ ?_); clear hE hK E K) | refine q_seq ?_ | refine c_cond false rfl (fun h => (by cases h)) fun _ => ?_ | refine q_blk ?_ | refine c_skip ?_ | refine q_lpN ?_
        exact ⟨las.length - (k + 1), by omega, k + 1, rfl, by omega, _, _, yy, nf_of rfl ⟨rfl, rfl, rfl, rfl, rfl, trivial⟩ trivial, b1, b2, b4, by rw [hst]; exact hy⟩
    have hd' : ((k : Int) < las.length) = False := eq_false (by omega)
    rw [List.take_of_length_le (by omega)] at hy
    generalize (las.filter fun x => K0 x.name) = lf at *
    repeat' first | refine c_seq ?_ | refine c_block ?_ | refine c_reg' rfl fun K E hK hE => ?_ | (refine r_opN fun κ η => ?_; simp only [go_sem, simprocAttr, Nat.le_refl, b1, hd']; (repeat refine ⟨by omega, ?_⟩); refine η _ ?_; clear η κ) | (refine r_nil (hK _ ?_); clear hE hK E K) | refine q_seq ?_ | refine c_cond false rfl (fun h => (by cases h)) fun _ => ?_ | refine c_exit ?_ | refine q_seqE ?_ | refine q_blkHit ?_ | refine q_lpE ?_
    refine c_loop (fun m s' => ∃ k : Nat, m = gts.length - k ∧ k ≤ gts.length ∧ ∃ F G0 zz, s' = nf 71 F G0 [(1, .ptr 1 1 0), (2, .ptr 2 1 0), (3, .t (.sl (sR CL))), (4, .ptr 4 1 0), (6, .t (.i .i64 k))] [] ∧ G0 1 = ⟨1, .cells 26 [.t (.sl (sR ins)), .t (.sl (sR outs)), .t (.sl (lsR las)), .t (.sl (gsR gts))]⟩ ∧ G0 2 = ⟨1, .cells 26 [.nilS, .nilS, .nilS, .nilS]⟩ ∧ G0 4 = ⟨1, .cells 26 [.t (.sl (sR ins)), .t (.sl (sR outs)), yy, zz]⟩ ∧ Acc G0 43 61 3 (lsR lf) yy ∧ Acc G0 68 45 5 (gsR ((gts.take k).filter fun x => K0 x.name)) zz) gts.length ?_ ?_
    · exact ⟨0, by omega, by omega, _, _, _, nf_of rfl ⟨rfl, rfl, rfl, rfl, rfl, trivial⟩ trivial, b1, b2, b4, hy, .inl ⟨rfl, rfl⟩⟩
    clear b1 b2 b4 hy hd hd'
    rintro m s' ⟨k, rfl, hk, F, G0, zz, rfl, b1, b2, b4, hy, hzz⟩
    by_cases hd : k < gts.length
    · have hd' : ((k : Int) < gts.length) = True := eq_true (by omega)
      obtain ⟨x, hx⟩ : ∃ x, gts[k]? = some x := ⟨_, List.getElem?_eq_getElem hd⟩
      have hx' := gsR_get hx
      have hh := hhs x.name
      have hst := filter_snoc (p := fun x : Gt => K0 x.name) hx
      have hlen : (gsR ((gts.take k).filter fun x => K0 x.name)).length ≤ 1000000 := by
        have := filter_take_len gts (fun x : Gt => K0 x.name) k
        rw [gsR_len]
        omega
      cases hKx : K0 x.name with
      | true =>
        rw [hKx] at hh
        rw [if_pos hKx] at hst
        have hs2 : gsR ((gts.take (k + 1)).filter fun x => K0 x.name) = gsR ((gts.take k).filter fun x => K0 x.name) ++ [[.s x.name, .i .i64 x.op, .sl (sR x.ins), .sl (rR x.rows), .b x.off]] := by rw [hst, gsR_app]; rfl
        rcases hzz with ⟨y0, rfl⟩ | ⟨q', rfl, hr2⟩
        · rw [y0] at hs2
          repeat' first | refine c_seq ?_ | refine c_block ?_ | refine c_reg' rfl fun K E hK hE => ?_ | (refine r_opN fun κ η => ?_; simp only [go_sem, simprocAttr, Nat.le_refl, b1, hd', hx']; (repeat refine ⟨by omega, ?_⟩); refine η _ ?_; clear η κ) | (refine r_nil (hK _ ?_); clear hE hK E K) | refine q_seq ?_ | refine c_cond true rfl (fun _ => ?_) (fun h => (by cases h)) | refine c_skip ?_
          refine r_opN fun κ η => ?_; simp only [go_sem, simprocAttr, Nat.le_refl]; refine ⟨_, hh, ?_⟩; simp only [go_sem, simprocAttr, Nat.le_refl]; refine η _ ?_; clear η κ
          repeat' first | refine c_reg' rfl fun K E hK hE => ?_ | refine c_draw' rfl (by kernel_rfl) fun K E hK hE => ?_ | ((first | refine r_opN fun κ η => ?_ | refine d_opN (by kernel_rfl) fun κ η => ?_); simp only [go_sem, simprocAttr, Nat.le_refl, b1, b4, hx']; (repeat refine ⟨by omega, ?_⟩); refine η _ ?_; clear η κ) | (refine r_nil (hK _ ?_); clear hE hK E K) | refine q_seq ?_ | refine c_cond true rfl (fun _ => ?_) (fun h => (by cases h)) | (refine d_nil (hK _ ?_); clear hE hK E K) | refine q_blk ?_ | refine q_lpN ?_
          exact ⟨gts.length - (k + 1), by omega, k + 1, rfl, by omega, _, _, _, nf_of rfl ⟨rfl, rfl, rfl, rfl, rfl, trivial⟩ trivial, b1, b2, rfl, hy, .inr ⟨_, rfl, by rw [hs2]; rfl⟩⟩
        · generalize gsR ((gts.take k).filter fun x => K0 x.name) = rw0 at hr2 hs2 hlen
          repeat' first | refine c_seq ?_ | refine c_block ?_ | refine c_reg' rfl fun K E hK hE => ?_ | (refine r_opN fun κ η => ?_; simp only [go_sem, simprocAttr, Nat.le_refl, b1, hd', hx']; (repeat refine ⟨by omega, ?_⟩); refine η _ ?_; clear η κ) | (refine r_nil (hK _ ?_); clear hE hK E K) | refine q_seq ?_ | refine c_cond true rfl (fun _ => ?_) (fun h => (by cases h)) | refine c_skip ?_
          refine r_opN fun κ η => ?_; simp only [go_sem, simprocAttr, Nat.le_refl]; refine ⟨_, hh, ?_⟩; simp only [go_sem, simprocAttr, Nat.le_refl]; refine η _ ?_; clear η κ
          repeat' first | refine c_reg' rfl fun K E hK hE => ?_ | refine c_draw' rfl (by kernel_rfl) fun K E hK hE => ?_ | ((first | refine r_opN fun κ η => ?_ | refine d_opN (by kernel_rfl) fun κ η => ?_); simp only [go_sem, simprocAttr, Nat.le_refl, b1, b4, hx', hr2]; (repeat refine ⟨by omega, ?_⟩); refine η _ ?_; clear η κ) | (refine r_nil (hK _ ?_); clear hE hK E K) | refine q_seq ?_ | refine c_cond true rfl (fun _ => ?_) (fun h => (by cases h)) | (refine d_nil (hK _ ?_); clear hE hK E K) | refine q_blk ?_ | refine q_lpN ?_
          exact ⟨gts.length - (k + 1), by omega, k + 1, rfl, by omega, _, _, _, nf_of rfl ⟨rfl, rfl, rfl, rfl, rfl, trivial⟩ trivial, b1, b2, rfl, hy, .inr ⟨_, rfl, by rw [hs2]; rfl⟩⟩
      | false =>
        rw [hKx] at hh
        rw [if_neg (by rw [hKx]; decide), List.append_nil] at hst
        repeat' first | refine c_seq ?_ | refine c_block ?_ | refine c_reg' rfl fun K E hK hE => ?_ | (refine r_opN fun κ η => ?_; simp only [go_sem, simprocAttr, Nat.le_refl, b1, hd', hx']; (repeat refine ⟨by omega, ?_⟩); refine η _ ?_; clear η κ) | (refine r_nil (hK _ ?_); clear hE hK E K) | refine q_seq ?_ | refine c_cond true rfl (fun _ => ?_) (fun h => (by cases h)) | refine c_skip ?_
        refine r_opN fun κ η => ?_; simp only [go_sem, simprocAttr, Nat.le_refl]; refine ⟨_, hh, ?_⟩; simp only [go_sem, simprocAttr, Nat.le_refl]; refine η _ ?_; clear η κ
        repeat' first | refine c_reg' rfl fun K E hK hE => ?_ | (refine r_opN fun κ η => ?_; simp only [go_sem, simprocAttr, Nat.le_refl]; (repeat refine ⟨by omega, ?_⟩); refine η _ ?_; clear η κ) | (refine r_nil (hK _ ?_); clear hE hK E K) | refine q_seq ?_ | refine c_cond false rfl (fun h => (by cases h)) fun _ => ?_ | refine q_blk ?_ | refine c_skip ?_ | refine q_lpN ?_
        exact ⟨gts.length - (k + 1), by omega, k + 1, rfl, by omega, _, _, zz, nf_of rfl ⟨rfl, rfl, rfl, rfl, rfl, trivial⟩ trivial, b1, b2, b4, hy, by rw [hst]; exact hzz⟩
    have hd' : ((k : Int) < gts.length) = False := eq_false (by omega)
    rw [List.take_of_length_le (by omega)] at hzz
    generalize (gts.filter fun x => K0 x.name) = gf at *
    rcases hy with ⟨y0, rfl⟩ | ⟨qy, rfl, hry⟩ <;> rcases hzz with ⟨z0, rfl⟩ | ⟨qz, rfl, hrz⟩
    · rw [y0, z0]
      repeat' first | refine c_seq ?_ | refine c_reg' rfl fun K E hK hE => ?_ | (refine r_opN fun κ η => ?_; simp only [go_sem, simprocAttr, Nat.le_refl, b1, hd', b4, b2]; (repeat refine ⟨by omega, ?_⟩); refine η _ ?_; clear η κ) | (refine r_nil (hK _ ?_); clear hE hK E K) | refine q_seq ?_ | refine c_cond false rfl (fun h => (by cases h)) fun _ => ?_ | refine c_exit ?_ | refine c_ret ?_ | refine q_seqE ?_ | refine q_blkHit ?_ | refine q_lpE ?_ | (refine q_ret ?_; refine q_rc ?_; simp only [go_sem, simprocAttr, Nat.le_refl, b1, hd', b4, b2])
    · rw [y0]
      repeat' first | refine c_seq ?_ | refine c_reg' rfl fun K E hK hE => ?_ | (refine r_opN fun κ η => ?_; simp only [go_sem, simprocAttr, Nat.le_refl, b1, hd', b4, b2, hrz]; (repeat refine ⟨by omega, ?_⟩); refine η _ ?_; clear η κ) | (refine r_nil (hK _ ?_); clear hE hK E K) | refine q_seq ?_ | refine c_cond false rfl (fun h => (by cases h)) fun _ => ?_ | refine c_exit ?_ | refine c_ret ?_ | refine q_seqE ?_ | refine q_blkHit ?_ | refine q_lpE ?_ | (refine q_ret ?_; refine q_rc ?_; simp only [go_sem, simprocAttr, Nat.le_refl, b1, hd', b4, b2, hrz])
    · rw [z0]
      repeat' first | refine c_seq ?_ | refine c_reg' rfl fun K E hK hE => ?_ | (refine r_opN fun κ η => ?_; simp only [go_sem, simprocAttr, Nat.le_refl, b1, hd', b4, b2, hry]; (repeat refine ⟨by omega, ?_⟩); refine η _ ?_; clear η κ) | (refine r_nil (hK _ ?_); clear hE hK E K) | refine q_seq ?_ | refine c_cond false rfl (fun h => (by cases h)) fun _ => ?_ | refine c_exit ?_ | refine c_ret ?_ | refine q_seqE ?_ | refine q_blkHit ?_ | refine q_lpE ?_ | (refine q_ret ?_; refine q_rc ?_; simp only [go_sem, simprocAttr, Nat.le_refl, b1, hd', b4, b2, hry])
    · repeat' first | refine c_seq ?_ | refine c_reg' rfl fun K E hK hE => ?_ | (refine r_opN fun κ η => ?_; simp only [go_sem, simprocAttr, Nat.le_refl, b1, hd', b4, b2, hry, hrz]; (repeat refine ⟨by omega, ?_⟩); refine η _ ?_; clear η κ) | (refine r_nil (hK _ ?_); clear hE hK E K) | refine q_seq ?_ | refine c_cond false rfl (fun h => (by cases h)) fun _ => ?_ | refine c_exit ?_ | refine c_ret ?_ | refine q_seqE ?_ | refine q_blkHit ?_ | refine q_lpE ?_ | (refine q_ret ?_; refine q_rc ?_; simp only [go_sem, simprocAttr, Nat.le_refl, b1, hd', b4, b2, hry, hrz])
  · have htr : trimC c = ⟨[], [], [], []⟩ := if_neg h0
    rw [htr]
    rw [decide_eq_false h0] at hri
    obtain ⟨ins, outs, las, gts⟩ := c
    simp only [cE] at hri ⊢
    refine ct_of (cls := _root_.id) tt_ok follows_ Tryd.func27 rfl (by decide) (Nat.le_of_ble_eq_true rfl) ?_
    rw [show Tryd.f27.ntmps = 71 from rfl, s0_nf]
    simp only [List.zipIdx_cons, List.zipIdx_nil, List.map_cons, List.map_nil, Nat.reduceAdd, cE]
    repeat' first | refine c_seq ?_ | refine c_reg' rfl fun K E hK hE => ?_ | (refine r_opN fun κ η => ?_; simp only [go_sem, simprocAttr, Nat.le_refl]; refine η _ ?_; clear η κ) | (refine r_nil (hK _ ?_); clear hE hK E K) | refine q_seq ?_
    refine r_callF fun κ η => ?_; simp only [go_sem, simprocAttr, Nat.le_refl]; refine ⟨_, (hri _), ?_⟩; rintro _ _ ⟨rfl, rfl⟩; simp only [go_sem, simprocAttr, Nat.le_refl]; refine η _ ?_; clear η κ
    repeat' first | refine c_seq ?_ | refine c_reg' rfl fun K E hK hE => ?_ | (refine r_opN fun κ η => ?_; simp only [go_sem, simprocAttr, Nat.le_refl]; refine η _ ?_; clear η κ) | (refine r_nil (hK _ ?_); clear hE hK E K) | refine q_seq ?_ | refine c_cond true rfl (fun _ => ?_) (fun h => (by cases h)) | refine c_ret ?_ | refine q_seqR ?_ | (refine q_ret ?_; refine q_rc ?_; simp only [go_sem, simprocAttr, Nat.le_refl])
    rfl
end Go.Proofs.YtbhoeanfnbkenaaDoor
