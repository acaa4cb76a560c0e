import Derived.Test.YtbhoeanfnbkenaaDoorR12
import Derived.Test.YtbhoeanfnbkenaaDoorR8
import Derived.Test.YtbhoeanfnbkenaaDoorR18
import Derived.Test.YtbhoeanfnbkenaaDoorR32
namespace Go.Proofs.YtbhoeanfnbkenaaDoor
open Go.RowKit Go.WideMaps
set_option maxRecDepth 100000
set_option linter.unusedSimpArgs false
variable (Hy : World → Prop)
attribute [local irreducible] runM runD cwp seqQ blkQ lpQ retQ asQ bdQ bdY retP endR preD retD
theorem rright_ct (c : Ci) (hr : CRoom c) (hz : CSz c) : Ct Tryd.prog Hy 45 [.ag (cE c)] [.b (decide ((checkC c).1 = 0))] := by
  have hck := fun (o : Nat → O) => Cm.of_ct (o := o) (rcheck_ct Hy c hr hz)
  obtain ⟨ins, outs, las, gts⟩ := c
  simp only [cE] at hck ⊢
  refine ct_of (cls := _root_.id) tt_ok follows_ Tryd.func45 rfl (by decide) (Nat.le_of_ble_eq_true rfl) ?_
  rw [show Tryd.f45.ntmps = 12 from rfl, s0_nf]
  simp only [List.zipIdx_cons, List.zipIdx_nil, List.map_cons, List.map_nil, Nat.reduceAdd, cE]
  repeat' first | refine c_seq ?_ | refine c_reg' rfl fun K E hK hE => ?_ | (refine r_opN fun κ η => ?_; simp only [go_sem, simprocAttr, Nat.le_refl]; refine η _ ?_; clear η κ) | (refine r_nil (hK _ ?_); clear hE hK E K) | refine q_seq ?_
  refine r_callF fun κ η => ?_; simp only [go_sem, simprocAttr, Nat.le_refl]; refine ⟨_, (hck _), ?_⟩; rintro _ _ ⟨rfl, rfl⟩; simp only [go_sem, simprocAttr, Nat.le_refl]; refine η _ ?_; clear η κ
  repeat' first | refine c_seq ?_ | refine c_reg' rfl fun K E hK hE => ?_ | (refine r_opN fun κ η => ?_; simp only [go_sem, simprocAttr, Nat.le_refl]; refine η _ ?_; clear η κ) | (refine r_nil (hK _ ?_); clear hE hK E K) | refine q_seq ?_ | refine c_ret ?_ | (refine q_ret ?_; refine q_r1 ?_; simp only [go_sem, simprocAttr, Nat.le_refl])
set_option maxHeartbeats 4000000 in
theorem rwaits_ct (c : Ci) (g : Gt) (th : Nat → Bool) (hg : c.gts.length ≤ 1000000) (hi : g.ins.length ≤ 1000000) : Ct Tryd.prog Hy 46 [.ag (cE c), .ag (gT g), .sl (bR c.gts.length th)] [.b (g.ins.any (needs c.gts th))] := by
  obtain ⟨R, hRe⟩ : ∃ R, R = g.ins.any (needs c.gts th) := ⟨_, rfl⟩
  rw [← hRe]
  obtain ⟨ins, outs, las, gts⟩ := c
  obtain ⟨name, op, gi, rows, off⟩ := g
  simp only at hg hi hRe
  refine ct_of (cls := _root_.id) tt_ok follows_ Tryd.func46 rfl (by decide) (Nat.le_of_ble_eq_true rfl) ?_
  rw [show Tryd.f46.ntmps = 42 from rfl, s0_nf]
  simp only [List.zipIdx_cons, List.zipIdx_nil, List.map_cons, List.map_nil, Nat.reduceAdd, cE, gT]
  repeat' first | refine c_seq ?_ | refine c_block ?_ | refine c_reg' rfl fun K E hK hE => ?_ | (refine r_opN fun κ η => ?_; simp only [go_sem, simprocAttr, Nat.le_refl]; refine η _ ?_; clear η κ) | (refine r_nil (hK _ ?_); clear hE hK E K) | refine q_seq ?_
  refine c_loop (fun m s' => ∃ p : Nat, m = gi.length - p ∧ p ≤ gi.length ∧ (∀ j x, j < p → gi[j]? = some x → needs gts th x = false) ∧ ∃ F G0, s' = nf 42 F G0 [(2, .t (.sl (bR gts.length th))), (3, .ptr 3 1 0), (4, .ptr 4 1 0), (7, .t (.i .i64 p))] [] ∧ G0 3 = ⟨1, .cells 26 [.t (.sl (sR ins)), .t (.sl (sR outs)), .t (.sl (lsR las)), .t (.sl (gsR gts))]⟩ ∧ G0 4 = ⟨1, .cells 45 [.t (.s name), .t (.i .i64 op), .t (.sl (sR gi)), .t (.sl (rR rows)), .t (.b off)]⟩) gi.length ?_ ?_
  · exact ⟨0, by omega, by omega, fun j x hj => absurd hj (Nat.not_lt_zero j), _, _, nf_of rfl ⟨rfl, rfl, rfl, rfl, trivial⟩ trivial, rfl, rfl⟩
  rintro m s' ⟨p, rfl, hp, hno, F, G0, rfl, h3, h4⟩
  by_cases hd : p < gi.length
  · have hd' : ((p : Int) < gi.length) = True := eq_true (by omega)
    obtain ⟨x, hx⟩ : ∃ x, gi[p]? = some x := ⟨_, List.getElem?_eq_getElem hd⟩
    have hx' := sR_get hx
    repeat' first | refine c_seq ?_ | refine c_block ?_ | refine c_reg' rfl fun K E hK hE => ?_ | (refine r_opN fun κ η => ?_; simp only [go_sem, simprocAttr, Nat.le_refl, h3, h4, hd']; (repeat refine ⟨by omega, ?_⟩); refine η _ ?_; clear η κ) | (refine r_nil (hK _ ?_); clear hE hK E K) | refine q_seq ?_ | refine c_cond true rfl (fun _ => ?_) (fun h => (by cases h)) | refine c_skip ?_
    refine c_loop (fun m s' => ∃ k : Nat, m = gts.length - k ∧ k ≤ gts.length ∧ (∀ j, j < k → (gat gts j).name = x → th j = true) ∧ ∃ F G0, s' = nf 42 F G0 [(2, .t (.sl (bR gts.length th))), (3, .ptr 3 1 0), (4, .ptr 4 1 0), (7, .t (.i .i64 p)), (8, .t (.i .i64 k))] [] ∧ G0 3 = ⟨1, .cells 26 [.t (.sl (sR ins)), .t (.sl (sR outs)), .t (.sl (lsR las)), .t (.sl (gsR gts))]⟩ ∧ G0 4 = ⟨1, .cells 45 [.t (.s name), .t (.i .i64 op), .t (.sl (sR gi)), .t (.sl (rR rows)), .t (.b off)]⟩) gts.length ?_ ?_
    · exact ⟨0, by omega, by omega, fun j hj => absurd hj (Nat.not_lt_zero j), _, _, nf_of rfl ⟨rfl, rfl, rfl, rfl, rfl, trivial⟩ trivial, h3, h4⟩
    clear h3 h4
    rintro m s' ⟨k, rfl, hk, hnk, F, G0, rfl, h3, h4⟩
    by_cases he : k < gts.length
    · have he' : ((k : Int) < gts.length) = True := eq_true (by omega)
      have hgk := gsR_get (gat_some he)
      have hbk := bR_get (th := th) he
      by_cases hnm : (gat gts k).name = x
      · have hnm' := eq_true hnm
        cases ht : th k with
        | false =>
          rw [ht] at hbk
          have hR1 : R = true := by
            rw [hRe, List.any_eq_true]
            exact ⟨x, List.mem_of_getElem? hx, (needs_iff _ _ _).2 ⟨k, he, hnm, ht⟩⟩
          subst hR1
          repeat' first | refine c_seq ?_ | refine c_block ?_ | refine c_reg' rfl fun K E hK hE => ?_ | refine c_draw' rfl (by kernel_rfl) fun K E hK hE => ?_ | ((first | refine r_opN fun κ η => ?_ | refine d_opN (by kernel_rfl) fun κ η => ?_ | refine d_opG (by kernel_rfl) rfl fun κ η => ?_); simp only [go_sem, simprocAttr, Nat.le_refl, h3, h4, he', hgk, hx', hnm', decide_true, hbk]; (repeat refine ⟨by omega, ?_⟩); refine η _ ?_; clear η κ) | (refine r_nil (hK _ ?_); clear hE hK E K) | refine q_seq ?_ | refine c_cond true rfl (fun _ => ?_) (fun h => (by cases h)) | (refine d_nil (hK _ ?_); clear hE hK E K) | refine c_skip ?_ | refine c_ret ?_ | refine q_seqR ?_ | refine q_blkR ?_ | refine q_lpR ?_ | (refine q_ret ?_; refine q_r1 ?_; simp only [go_sem, simprocAttr, Nat.le_refl, h3, h4, he', hgk, hx', hnm', decide_true, hbk])
        | true =>
          rw [ht] at hbk
          repeat' first | refine c_seq ?_ | refine c_block ?_ | refine c_reg' rfl fun K E hK hE => ?_ | refine c_draw' rfl (by kernel_rfl) fun K E hK hE => ?_ | ((first | refine r_opN fun κ η => ?_ | refine d_opN (by kernel_rfl) fun κ η => ?_ | refine d_opG (by kernel_rfl) rfl fun κ η => ?_); simp only [go_sem, simprocAttr, Nat.le_refl, h3, h4, he', hgk, hx', hnm', decide_true, hbk]; (repeat refine ⟨by omega, ?_⟩); refine η _ ?_; clear η κ) | (refine r_nil (hK _ ?_); clear hE hK E K) | refine q_seq ?_ | refine c_cond true rfl (fun _ => ?_) (fun h => (by cases h)) | refine c_cond false rfl (fun h => (by cases h)) fun _ => ?_ | (refine d_nil (hK _ ?_); clear hE hK E K) | refine q_blk ?_ | refine c_skip ?_ | refine q_lpN ?_
          exact ⟨gts.length - (k + 1), by omega, k + 1, rfl, by omega, fun j hj hjx => (Nat.lt_or_eq_of_le (Nat.lt_succ_iff.1 hj)).elim (fun h => hnk j h hjx) (fun h => h ▸ ht), _, _, nf_of rfl ⟨rfl, rfl, rfl, rfl, rfl, trivial⟩ trivial, h3, h4⟩
      · have hnm' := eq_false hnm
        repeat' first | refine c_seq ?_ | refine c_block ?_ | refine c_reg' rfl fun K E hK hE => ?_ | refine c_draw' rfl (by kernel_rfl) fun K E hK hE => ?_ | ((first | refine r_opN fun κ η => ?_ | refine d_opN (by kernel_rfl) fun κ η => ?_ | refine d_opG (by kernel_rfl) rfl fun κ η => ?_); simp only [go_sem, simprocAttr, Nat.le_refl, h3, h4, he', hgk, hx', hnm', decide_false, hbk]; (repeat refine ⟨by omega, ?_⟩); refine η _ ?_; clear η κ) | (refine r_nil (hK _ ?_); clear hE hK E K) | refine q_seq ?_ | refine c_cond true rfl (fun _ => ?_) (fun h => (by cases h)) | refine c_cond false rfl (fun h => (by cases h)) fun _ => ?_ | (refine d_nil (hK _ ?_); clear hE hK E K) | refine q_blk ?_ | refine c_skip ?_ | refine q_lpN ?_
        exact ⟨gts.length - (k + 1), by omega, k + 1, rfl, by omega, fun j hj hjx => (Nat.lt_or_eq_of_le (Nat.lt_succ_iff.1 hj)).elim (fun h => hnk j h hjx) (fun h => absurd (h ▸ hjx) hnm), _, _, nf_of rfl ⟨rfl, rfl, rfl, rfl, rfl, trivial⟩ trivial, h3, h4⟩
    · have he' : ((k : Int) < gts.length) = False := eq_false (by omega)
      repeat' first | refine c_seq ?_ | refine c_reg' rfl fun K E hK hE => ?_ | (refine r_opN fun κ η => ?_; simp only [go_sem, simprocAttr, Nat.le_refl, h3, h4, he']; (repeat refine ⟨by omega, ?_⟩); refine η _ ?_; clear η κ) | (refine r_nil (hK _ ?_); clear hE hK E K) | refine q_seq ?_ | refine c_cond false rfl (fun h => (by cases h)) fun _ => ?_ | refine q_blk ?_ | refine c_exit ?_ | refine q_seqE ?_ | refine q_blkHit ?_ | refine q_lpE ?_ | refine q_lpN ?_
      refine ⟨gi.length - (p + 1), by omega, p + 1, rfl, by omega, fun j y hj hy => ?_, _, _, nf_of rfl ⟨rfl, rfl, rfl, rfl, trivial⟩ trivial, h3, h4⟩
      rcases Nat.lt_or_eq_of_le (Nat.lt_succ_iff.1 hj) with h | rfl
      · exact hno j y h hy
      · rw [hx] at hy; cases hy
        exact needs_no fun j hj => hnk j (by omega)
  · have hd' : ((p : Int) < gi.length) = False := eq_false (by omega)
    have hR0 : R = false := by
      rw [hRe, List.any_eq_false]
      intro x hx
      obtain ⟨j, hj⟩ := List.getElem?_of_mem hx
      rw [hno j x (by have := (List.getElem?_eq_some_iff.1 hj).1; omega) hj]
      decide
    subst hR0
    repeat' first | refine c_seq ?_ | refine c_reg' rfl fun K E hK hE => ?_ | (refine r_opN fun κ η => ?_; simp only [go_sem, simprocAttr, Nat.le_refl, h3, h4, hd']; (repeat refine ⟨by omega, ?_⟩); refine η _ ?_; clear η κ) | (refine r_nil (hK _ ?_); clear hE hK E K) | refine q_seq ?_ | refine c_cond false rfl (fun h => (by cases h)) fun _ => ?_ | refine c_exit ?_ | refine c_ret ?_ | refine q_seqE ?_ | refine q_blkHit ?_ | refine q_lpE ?_ | (refine q_ret ?_; refine q_r1 ?_; simp only [go_sem, simprocAttr, Nat.le_refl, h3, h4, hd'])
end Go.Proofs.YtbhoeanfnbkenaaDoor
namespace Go.Proofs.YtbhoeanfnbkenaaDoor
open Go.RowKit Go.WideMaps
set_option maxRecDepth 100000
set_option linter.unusedSimpArgs false
variable (Hy : World → Prop)
attribute [local irreducible] runM runD cwp seqQ blkQ lpQ retQ asQ bdQ bdY retP endR preD retD
set_option maxHeartbeats 8000000 in
theorem rsort_ct (c : Ci) (hr : CRoom c) (hz : CSz c) : Ct Tryd.prog Hy 15 [.ag (cE c)] [.sl (iR (castL (sortC c).1)), .sl (sR (sortC c).2)] := by
  have hri := fun (o : Nat → O) => Cm.of_ct (o := o) (rright_ct Hy c hr hz)
  by_cases h0 : (checkC c).1 = 0
  · have hs : sortC c = ((sortG c.gts).1, neverG c.gts) := if_pos h0
    have hco := cok_of h0
    have hn := hco.n200
    have hwt := fun g th hi => rwaits_ct Hy c g th (by omega) hi
    have hi8 := hco.ins
    rw [hs]
    rw [decide_eq_true h0] at hri
    have hz0 : List.replicate c.gts.length [T.b false] = bR c.gts.length none_ := by rw [bR_zero, thOf_nil]
    obtain ⟨ins, outs, las, gts⟩ := c
    simp only at hn hi8 hz0
    simp only [cE, gT] at hri hwt ⊢
    refine ct_of (cls := _root_.id) tt_ok follows_ Tryd.func15 rfl (by decide) (Nat.le_of_ble_eq_true rfl) ?_
    rw [show Tryd.f15.ntmps = 77 from rfl, s0_nf]
    simp only [List.zipIdx_cons, List.zipIdx_nil, List.map_cons, List.map_nil, Nat.reduceAdd, cE]
    repeat' first | refine c_seq ?_ | refine c_reg' rfl fun K E hK hE => ?_ | (refine r_opN fun κ η => ?_; simp only [go_sem, simprocAttr, Nat.le_refl]; refine η _ ?_; clear η κ) | (refine r_nil (hK _ ?_); clear hE hK E K) | refine q_seq ?_
    refine r_callF fun κ η => ?_; simp only [go_sem, simprocAttr, Nat.le_refl]; refine ⟨_, (hri _), ?_⟩; rintro _ _ ⟨rfl, rfl⟩; simp only [go_sem, simprocAttr, Nat.le_refl]; refine η _ ?_; clear η κ
    repeat' first | refine c_seq ?_ | refine c_block ?_ | refine c_reg' rfl fun K E hK hE => ?_ | (refine r_opN fun κ η => ?_; simp only [go_sem, simprocAttr, Nat.le_refl, hz0]; (repeat refine ⟨by omega, ?_⟩); refine η _ ?_; clear η κ) | (refine r_nil (hK _ ?_); clear hE hK E K) | refine q_seq ?_ | refine c_cond false rfl (fun h => (by cases h)) fun _ => ?_ | refine c_skip ?_
    refine c_loop (fun m s' => ∃ n : Nat, m = gts.length - n ∧ n ≤ gts.length ∧ ∃ F G0 yy, s' = nf 77 F G0 [(1, .ptr 1 1 0), (4, yy), (5, .nilS), (6, .row 16 1), (7, .t (.i .i64 n))] [] ∧ G0 1 = ⟨1, .cells 26 [.t (.sl (sR ins)), .t (.sl (sR outs)), .t (.sl (lsR las)), .t (.sl (gsR gts))]⟩ ∧ G0 16 = ⟨1, .row 4 1 (bR gts.length (sortF gts n none_).2)⟩ ∧ Acc G0 53 3 1 (iR (castL (sortF gts n none_).1)) yy) gts.length ?_ ?_
    · exact ⟨0, by omega, by omega, _, _, _, nf_of rfl ⟨rfl, rfl, rfl, rfl, rfl, trivial⟩ trivial, rfl, rfl, .inl ⟨rfl, rfl⟩⟩
    rintro m s' ⟨n, rfl, hnn, F, G0, yy, rfl, b1, b16, hy⟩
    have hsc := sortF_succ gts n none_
    by_cases hd : n < gts.length
    · have hd' : ((n : Int) < gts.length) = True := eq_true (by omega)
      have hll := (sortF_lt gts n none_).1
      generalize hst : sortF gts n none_ = st at *
      obtain ⟨l, th⟩ := st
      simp only at hsc hll b16 hy
      repeat' first | refine c_seq ?_ | refine c_block ?_ | refine c_reg' rfl fun K E hK hE => ?_ | (refine r_opN fun κ η => ?_; simp only [go_sem, simprocAttr, Nat.le_refl, b1, hd']; (repeat refine ⟨by omega, ?_⟩); refine η _ ?_; clear η κ) | (refine r_nil (hK _ ?_); clear hE hK E K) | refine q_seq ?_ | refine c_cond true rfl (fun _ => ?_) (fun h => (by cases h)) | refine c_skip ?_
      refine c_loop (fun m s' => ∃ k : Nat, m = gts.length - k ∧ k ≤ gts.length ∧ (∀ j, j < k → freeB gts th j = false) ∧ ∃ F G0, s' = nf 77 F G0 [(1, .ptr 1 1 0), (4, yy), (5, .nilS), (6, .row 16 1), (7, .t (.i .i64 n)), (8, .t (.i .i64 k))] [] ∧ G0 1 = ⟨1, .cells 26 [.t (.sl (sR ins)), .t (.sl (sR outs)), .t (.sl (lsR las)), .t (.sl (gsR gts))]⟩ ∧ G0 16 = ⟨1, .row 4 1 (bR gts.length th)⟩ ∧ Acc G0 53 3 1 (iR (castL l)) yy) gts.length ?_ ?_
      · exact ⟨0, by omega, by omega, fun j hj => absurd hj (Nat.not_lt_zero j), _, _, nf_of rfl ⟨rfl, rfl, rfl, rfl, rfl, rfl, trivial⟩ trivial, b1, b16, hy⟩
      clear b1 b16 hy
      rintro m s' ⟨k, rfl, hk, hno, F, G0, rfl, b1, b16, hy⟩
      by_cases he : k < gts.length
      · have he' : ((k : Int) < gts.length) = True := eq_true (by omega)
        have hgk := gsR_get (gat_some he)
        have hbk := bR_get (th := th) he
        have hw := hwt (gat gts k) th (by have := hi8 _ (gat_mem he); omega)
        cases ht : th k with
        | true =>
          rw [ht] at hbk
          repeat' first | refine c_seq ?_ | refine c_block ?_ | refine c_reg' rfl fun K E hK hE => ?_ | refine c_draw' rfl (by kernel_rfl) fun K E hK hE => ?_ | ((first | refine r_opN fun κ η => ?_ | refine d_opN (by kernel_rfl) fun κ η => ?_ | refine d_opG (by kernel_rfl) rfl fun κ η => ?_); simp only [go_sem, simprocAttr, Nat.le_refl, b1, b16, he', hgk, hbk]; (repeat refine ⟨by omega, ?_⟩); refine η _ ?_; clear η κ) | (refine r_nil (hK _ ?_); clear hE hK E K) | refine q_seq ?_ | refine c_cond true rfl (fun _ => ?_) (fun h => (by cases h)) | refine c_cond false rfl (fun h => (by cases h)) fun _ => ?_ | (refine d_nil (hK _ ?_); clear hE hK E K) | refine q_blk ?_ | refine c_skip ?_ | refine q_lpN ?_
          exact ⟨gts.length - (k + 1), by omega, k + 1, rfl, by omega, fun j hj => (Nat.lt_or_eq_of_le (Nat.lt_succ_iff.1 hj)).elim (fun h => hno j h) (fun h => by rw [h]; unfold freeB; rw [ht]; rfl), _, _, nf_of rfl ⟨rfl, rfl, rfl, rfl, rfl, rfl, trivial⟩ trivial, b1, b16, hy⟩
        | false =>
          rw [ht] at hbk
          cases hwv : (gat gts k).ins.any (needs gts th) with
          | true =>
            rw [hwv] at hw
            repeat' first | refine c_seq ?_ | refine c_block ?_ | refine c_reg' rfl fun K E hK hE => ?_ | refine c_draw' rfl (by kernel_rfl) fun K E hK hE => ?_ | ((first | refine r_opN fun κ η => ?_ | refine d_opN (by kernel_rfl) fun κ η => ?_ | refine d_opG (by kernel_rfl) rfl fun κ η => ?_); simp only [go_sem, simprocAttr, Nat.le_refl, b1, b16, he', hgk, hbk]; (repeat refine ⟨by omega, ?_⟩); refine η _ ?_; clear η κ) | (refine r_nil (hK _ ?_); clear hE hK E K) | refine q_seq ?_ | refine c_cond true rfl (fun _ => ?_) (fun h => (by cases h)) | refine c_skip ?_
            refine d_opG (by kernel_rfl) rfl fun κ η => ?_; simp only [go_sem, simprocAttr, Nat.le_refl, b16]; refine ⟨_, hw, ?_⟩; simp only [go_sem, simprocAttr, Nat.le_refl, b16]; refine η _ ?_; clear η κ
            repeat' first | refine c_reg' rfl fun K E hK hE => ?_ | ((first | refine r_opN fun κ η => ?_ | refine d_opN (by kernel_rfl) fun κ η => ?_ | refine d_opG (by kernel_rfl) rfl fun κ η => ?_); simp only [go_sem, simprocAttr, Nat.le_refl]; (repeat refine ⟨by omega, ?_⟩); refine η _ ?_; clear η κ) | (refine r_nil (hK _ ?_); clear hE hK E K) | refine q_seq ?_ | refine c_cond false rfl (fun h => (by cases h)) fun _ => ?_ | (refine d_nil (hK _ ?_); clear hE hK E K) | refine q_blk ?_ | refine c_skip ?_ | refine q_lpN ?_
            exact ⟨gts.length - (k + 1), by omega, k + 1, rfl, by omega, fun j hj => (Nat.lt_or_eq_of_le (Nat.lt_succ_iff.1 hj)).elim (fun h => hno j h) (fun h => by rw [h]; unfold freeB waitsF; rw [ht, hwv]; rfl), _, _, nf_of rfl ⟨rfl, rfl, rfl, rfl, rfl, rfl, trivial⟩ trivial, b1, b16, hy⟩
          | false =>
            rw [hwv] at hw
            have hset := bR_set (N := gts.length) (th := th) k
            have hff : firstF gts th = some k := firstF_at he hno (by unfold freeB waitsF; rw [ht, hwv]; rfl)
            rw [hff] at hsc
            have hsc : sortF gts (n + 1) none_ = (l ++ [k], updB th k) := hsc
            have hsl := castL_snoc l k
            have hlen : (iR (castL l)).length ≤ 1000000 := by
              rw [iR_len, castL_len]
              omega
            rcases hy with ⟨y0, rfl⟩ | ⟨q', rfl, hr2⟩
            · rw [y0] at hsl
              repeat' first | refine c_seq ?_ | refine c_block ?_ | refine c_reg' rfl fun K E hK hE => ?_ | refine c_draw' rfl (by kernel_rfl) fun K E hK hE => ?_ | ((first | refine r_opN fun κ η => ?_ | refine d_opN (by kernel_rfl) fun κ η => ?_ | refine d_opG (by kernel_rfl) rfl fun κ η => ?_); simp only [go_sem, simprocAttr, Nat.le_refl, b1, b16, he', hgk, hbk]; (repeat refine ⟨by omega, ?_⟩); refine η _ ?_; clear η κ) | (refine r_nil (hK _ ?_); clear hE hK E K) | refine q_seq ?_ | refine c_cond true rfl (fun _ => ?_) (fun h => (by cases h)) | refine c_skip ?_
              refine d_opG (by kernel_rfl) rfl fun κ η => ?_; simp only [go_sem, simprocAttr, Nat.le_refl, b16]; refine ⟨_, hw, ?_⟩; simp only [go_sem, simprocAttr, Nat.le_refl, b16]; refine η _ ?_; clear η κ
              repeat' first | refine c_seq ?_ | refine c_reg' rfl fun K E hK hE => ?_ | ((first | refine r_opN fun κ η => ?_ | refine d_opN (by kernel_rfl) fun κ η => ?_ | refine d_opG (by kernel_rfl) rfl fun κ η => ?_); simp only [go_sem, simprocAttr, Nat.le_refl, b16, hbk, hset]; (repeat refine ⟨by omega, ?_⟩); refine η _ ?_; clear η κ) | (refine r_nil (hK _ ?_); clear hE hK E K) | refine q_seq ?_ | refine c_cond true rfl (fun _ => ?_) (fun h => (by cases h)) | (refine d_nil (hK _ ?_); clear hE hK E K) | refine q_blk ?_ | refine c_exit ?_ | refine q_seqE ?_ | refine q_blkHit ?_ | refine q_blkMiss rfl ?_ | refine q_lpE ?_ | refine q_lpN ?_
              exact ⟨gts.length - (n + 1), by omega, n + 1, rfl, by omega, _, _, _, nf_of rfl ⟨rfl, rfl, rfl, rfl, rfl, trivial⟩ trivial, b1, by rw [hsc]; rfl, .inr ⟨_, rfl, by rw [hsc, hsl]; rfl⟩⟩
            · generalize iR (castL l) = rw0 at hr2 hsl hlen
              repeat' first | refine c_seq ?_ | refine c_block ?_ | refine c_reg' rfl fun K E hK hE => ?_ | refine c_draw' rfl (by kernel_rfl) fun K E hK hE => ?_ | ((first | refine r_opN fun κ η => ?_ | refine d_opN (by kernel_rfl) fun κ η => ?_ | refine d_opG (by kernel_rfl) rfl fun κ η => ?_); simp only [go_sem, simprocAttr, Nat.le_refl, b1, b16, he', hgk, hbk]; (repeat refine ⟨by omega, ?_⟩); refine η _ ?_; clear η κ) | (refine r_nil (hK _ ?_); clear hE hK E K) | refine q_seq ?_ | refine c_cond true rfl (fun _ => ?_) (fun h => (by cases h)) | refine c_skip ?_
              refine d_opG (by kernel_rfl) rfl fun κ η => ?_; simp only [go_sem, simprocAttr, Nat.le_refl, b16]; refine ⟨_, hw, ?_⟩; simp only [go_sem, simprocAttr, Nat.le_refl, b16]; refine η _ ?_; clear η κ
              repeat' first | refine c_seq ?_ | refine c_reg' rfl fun K E hK hE => ?_ | ((first | refine r_opN fun κ η => ?_ | refine d_opN (by kernel_rfl) fun κ η => ?_ | refine d_opG (by kernel_rfl) rfl fun κ η => ?_); simp only [go_sem, simprocAttr, Nat.le_refl, b16, hbk, hset, hr2]; (repeat refine ⟨by omega, ?_⟩); refine η _ ?_; clear η κ) | (refine r_nil (hK _ ?_); clear hE hK E K) | refine q_seq ?_ | refine c_cond true rfl (fun _ => ?_) (fun h => (by cases h)) | (refine d_nil (hK _ ?_); clear hE hK E K) | refine q_blk ?_ | refine c_exit ?_ | refine q_seqE ?_ | refine q_blkHit ?_ | refine q_blkMiss rfl ?_ | refine q_lpE ?_ | refine q_lpN ?_
              exact ⟨gts.length - (n + 1), by omega, n + 1, rfl, by omega, _, _, _, nf_of rfl ⟨rfl, rfl, rfl, rfl, rfl, trivial⟩ trivial, b1, by rw [hsc]; rfl, .inr ⟨_, rfl, by rw [hsc, hsl]; rfl⟩⟩
      · have he' : ((k : Int) < gts.length) = False := eq_false (by omega)
        rw [firstF_no fun j hj => hno j (by omega)] at hsc
        have hsc : sortF gts (n + 1) none_ = (l, th) := hsc
        repeat' first | refine c_seq ?_ | refine c_reg' rfl fun K E hK hE => ?_ | (refine r_opN fun κ η => ?_; simp only [go_sem, simprocAttr, Nat.le_refl, b1, he']; (repeat refine ⟨by omega, ?_⟩); refine η _ ?_; clear η κ) | (refine r_nil (hK _ ?_); clear hE hK E K) | refine q_seq ?_ | refine c_cond false rfl (fun h => (by cases h)) fun _ => ?_ | refine q_blk ?_ | refine c_exit ?_ | refine q_seqE ?_ | refine q_blkHit ?_ | refine q_lpE ?_ | refine q_lpN ?_
        exact ⟨gts.length - (n + 1), by omega, n + 1, rfl, by omega, _, _, yy, nf_of rfl ⟨rfl, rfl, rfl, rfl, rfl, trivial⟩ trivial, b1, by rw [hsc]; exact b16, by rw [hsc]; exact hy⟩
    · have hd' : ((n : Int) < gts.length) = False := eq_false (by omega)
      obtain ⟨n, hne, rfl⟩ : ∃ n', n' = gts.length ∧ n' = n := ⟨_, rfl, by omega⟩
      subst hne
      have hth : (sortF gts gts.length none_).2 = thOf (sortG gts).1 := funext fun k => never_mem gts k
      rw [hth] at b16
      replace hy : Acc G0 53 3 1 (iR (castL (sortG gts).1)) yy := hy
      clear hsc hth
      generalize hso : (sortG gts).1 = so at *
      repeat' first | refine c_seq ?_ | refine c_block ?_ | refine c_reg' rfl fun K E hK hE => ?_ | (refine r_opN fun κ η => ?_; simp only [go_sem, simprocAttr, Nat.le_refl, b1, hd']; (repeat refine ⟨by omega, ?_⟩); refine η _ ?_; clear η κ) | (refine r_nil (hK _ ?_); clear hE hK E K) | refine q_seq ?_ | refine c_cond false rfl (fun h => (by cases h)) fun _ => ?_ | refine c_exit ?_ | refine q_seqE ?_ | refine q_blkHit ?_ | refine q_lpE ?_
      refine c_loop (fun m s' => ∃ k : Nat, m = gts.length - k ∧ k ≤ gts.length ∧ ∃ F G0 zz, s' = nf 77 F G0 [(1, .ptr 1 1 0), (4, yy), (5, zz), (6, .row 16 1), (9, .t (.i .i64 k))] [] ∧ G0 1 = ⟨1, .cells 26 [.t (.sl (sR ins)), .t (.sl (sR outs)), .t (.sl (lsR las)), .t (.sl (gsR gts))]⟩ ∧ Acc G0 53 3 1 (iR (castL so)) yy ∧ G0 16 = ⟨1, .row 4 1 (bR gts.length (thOf so))⟩ ∧ Acc G0 74 9 1 (sR (nevP gts k)) zz) gts.length ?_ ?_
      · exact ⟨0, by omega, by omega, _, _, _, nf_of rfl ⟨rfl, rfl, rfl, rfl, rfl, trivial⟩ trivial, b1, hy, b16, .inl ⟨rfl, rfl⟩⟩
      clear b1 hy b16 hd hd'
      rintro m s' ⟨k, rfl, hk, F, G0, zz, rfl, b1, hy, b16, hzz⟩
      by_cases hd : k < gts.length
      · have hd' : ((k : Int) < gts.length) = True := eq_true (by omega)
        have hx' := gsR_get (gat_some hd)
        have hbg := bR_get (th := thOf so) hd
        have hnx := nevP_succ gts k
        rw [hso] at hnx
        cases hb : thOf so k with
        | true =>
          rw [hb] at hbg
          rw [if_pos hb, List.append_nil] at hnx
          repeat' first | refine c_seq ?_ | refine c_block ?_ | refine c_reg' rfl fun K E hK hE => ?_ | (refine r_opN fun κ η => ?_; simp only [go_sem, simprocAttr, Nat.le_refl, b1, hd', hx', b16, hbg]; (repeat refine ⟨by omega, ?_⟩); refine η _ ?_; clear η κ) | (refine r_nil (hK _ ?_); clear hE hK E K) | refine q_seq ?_ | refine c_cond true rfl (fun _ => ?_) (fun h => (by cases h)) | refine c_cond false rfl (fun h => (by cases h)) fun _ => ?_ | refine q_blk ?_ | refine c_skip ?_ | refine q_lpN ?_
          exact ⟨gts.length - (k + 1), by omega, k + 1, rfl, by omega, _, _, zz, nf_of rfl ⟨rfl, rfl, rfl, rfl, rfl, trivial⟩ trivial, b1, hy, b16, by rw [hnx]; exact hzz⟩
        | false =>
          rw [hb] at hbg
          rw [if_neg (by rw [hb]; decide)] at hnx
          have hs2 : sR (nevP gts (k + 1)) = sR (nevP gts k) ++ [[.s (gat gts k).name]] := by rw [hnx, sR_app]; rfl
          have hlen : (sR (nevP gts k)).length ≤ 1000000 := by
            have := nevP_len gts k
            rw [sR_len]
            omega
          rcases hzz with ⟨h0, rfl⟩ | ⟨q, rfl, hr2⟩
          · rw [h0] at hs2
            repeat' first | refine c_seq ?_ | refine c_block ?_ | refine c_reg' rfl fun K E hK hE => ?_ | (refine r_opN fun κ η => ?_; simp only [go_sem, simprocAttr, Nat.le_refl, b1, hd', hx', b16, hbg]; (repeat refine ⟨by omega, ?_⟩); refine η _ ?_; clear η κ) | (refine r_nil (hK _ ?_); clear hE hK E K) | refine q_seq ?_ | refine c_cond true rfl (fun _ => ?_) (fun h => (by cases h)) | refine q_blk ?_ | refine c_skip ?_ | refine q_lpN ?_
            exact ⟨gts.length - (k + 1), by omega, k + 1, rfl, by omega, _, _, _, nf_of rfl ⟨rfl, rfl, rfl, rfl, rfl, trivial⟩ trivial, b1, hy, b16, .inr ⟨_, rfl, by rw [hs2]; rfl⟩⟩
          · generalize sR (nevP gts k) = rw0 at hr2 hs2 hlen
            repeat' first | refine c_seq ?_ | refine c_block ?_ | refine c_reg' rfl fun K E hK hE => ?_ | (refine r_opN fun κ η => ?_; simp only [go_sem, simprocAttr, Nat.le_refl, b1, hd', hx', b16, hbg, hr2]; (repeat refine ⟨by omega, ?_⟩); refine η _ ?_; clear η κ) | (refine r_nil (hK _ ?_); clear hE hK E K) | refine q_seq ?_ | refine c_cond true rfl (fun _ => ?_) (fun h => (by cases h)) | refine q_blk ?_ | refine c_skip ?_ | refine q_lpN ?_
            exact ⟨gts.length - (k + 1), by omega, k + 1, rfl, by omega, _, _, _, nf_of rfl ⟨rfl, rfl, rfl, rfl, rfl, trivial⟩ trivial, b1, hy, b16, .inr ⟨_, rfl, by rw [hs2]; rfl⟩⟩
      · have hd' : ((k : Int) < gts.length) = False := eq_false (by omega)
        obtain ⟨k, hke, rfl⟩ : ∃ n', n' = gts.length ∧ n' = k := ⟨_, rfl, by omega⟩
        subst hke
        rw [nevP_all] at hzz
        rcases hy with ⟨x0, rfl⟩ | ⟨q, rfl, hr2⟩ <;> rcases hzz with ⟨y0, rfl⟩ | ⟨q', rfl, hr3⟩
        · rw [x0, y0]
          repeat' first | refine c_seq ?_ | refine c_reg' rfl fun K E hK hE => ?_ | (refine r_opN fun κ η => ?_; simp only [go_sem, simprocAttr, Nat.le_refl, b1, hd']; (repeat refine ⟨by omega, ?_⟩); refine η _ ?_; clear η κ) | (refine r_nil (hK _ ?_); clear hE hK E K) | refine q_seq ?_ | refine c_cond false rfl (fun h => (by cases h)) fun _ => ?_ | refine c_exit ?_ | refine c_ret ?_ | refine q_seqE ?_ | refine q_blkHit ?_ | refine q_lpE ?_ | (refine q_ret ?_; refine q_r1 ?_; simp only [go_sem, simprocAttr, Nat.le_refl, b1, hd'])
        · rw [x0]
          repeat' first | refine c_seq ?_ | refine c_reg' rfl fun K E hK hE => ?_ | (refine r_opN fun κ η => ?_; simp only [go_sem, simprocAttr, Nat.le_refl, b1, hd', hr3]; (repeat refine ⟨by omega, ?_⟩); refine η _ ?_; clear η κ) | (refine r_nil (hK _ ?_); clear hE hK E K) | refine q_seq ?_ | refine c_cond false rfl (fun h => (by cases h)) fun _ => ?_ | refine c_exit ?_ | refine c_ret ?_ | refine q_seqE ?_ | refine q_blkHit ?_ | refine q_lpE ?_ | (refine q_ret ?_; refine q_r1 ?_; simp only [go_sem, simprocAttr, Nat.le_refl, b1, hd', hr3])
        · rw [y0]
          repeat' first | refine c_seq ?_ | refine c_reg' rfl fun K E hK hE => ?_ | (refine r_opN fun κ η => ?_; simp only [go_sem, simprocAttr, Nat.le_refl, b1, hd', hr2]; (repeat refine ⟨by omega, ?_⟩); refine η _ ?_; clear η κ) | (refine r_nil (hK _ ?_); clear hE hK E K) | refine q_seq ?_ | refine c_cond false rfl (fun h => (by cases h)) fun _ => ?_ | refine c_exit ?_ | refine c_ret ?_ | refine q_seqE ?_ | refine q_blkHit ?_ | refine q_lpE ?_ | (refine q_ret ?_; refine q_r1 ?_; simp only [go_sem, simprocAttr, Nat.le_refl, b1, hd', hr2])
        · repeat' first | refine c_seq ?_ | refine c_reg' rfl fun K E hK hE => ?_ | (refine r_opN fun κ η => ?_; simp only [go_sem, simprocAttr, Nat.le_refl, b1, hd', hr2, hr3]; (repeat refine ⟨by omega, ?_⟩); refine η _ ?_; clear η κ) | (refine r_nil (hK _ ?_); clear hE hK E K) | refine q_seq ?_ | refine c_cond false rfl (fun h => (by cases h)) fun _ => ?_ | refine c_exit ?_ | refine c_ret ?_ | refine q_seqE ?_ | refine q_blkHit ?_ | refine q_lpE ?_ | (refine q_ret ?_; refine q_r1 ?_; simp only [go_sem, simprocAttr, Nat.le_refl, b1, hd', hr2, hr3])
  · have hs : sortC c = ([], []) := if_neg h0
    rw [hs]
    rw [decide_eq_false h0] at hri
    obtain ⟨ins, outs, las, gts⟩ := c
    simp only [cE] at hri ⊢
    refine ct_of (cls := _root_.id) tt_ok follows_ Tryd.func15 rfl (by decide) (Nat.le_of_ble_eq_true rfl) ?_
    rw [show Tryd.f15.ntmps = 77 from rfl, s0_nf]
    simp only [List.zipIdx_cons, List.zipIdx_nil, List.map_cons, List.map_nil, Nat.reduceAdd, cE]
    repeat' first | refine c_seq ?_ | refine c_reg' rfl fun K E hK hE => ?_ | (refine r_opN fun κ η => ?_; simp only [go_sem, simprocAttr, Nat.le_refl]; refine η _ ?_; clear η κ) | (refine r_nil (hK _ ?_); clear hE hK E K) | refine q_seq ?_
    refine r_callF fun κ η => ?_; simp only [go_sem, simprocAttr, Nat.le_refl]; refine ⟨_, (hri _), ?_⟩; rintro _ _ ⟨rfl, rfl⟩; simp only [go_sem, simprocAttr, Nat.le_refl]; refine η _ ?_; clear η κ
    repeat' first | refine c_seq ?_ | refine c_reg' rfl fun K E hK hE => ?_ | (refine r_opN fun κ η => ?_; simp only [go_sem, simprocAttr, Nat.le_refl]; refine η _ ?_; clear η κ) | (refine r_nil (hK _ ?_); clear hE hK E K) | refine q_seq ?_ | refine c_cond true rfl (fun _ => ?_) (fun h => (by cases h)) | refine c_ret ?_ | refine q_seqR ?_ | (refine q_ret ?_; refine q_r1 ?_; simp only [go_sem, simprocAttr, Nat.le_refl])
    rfl
end Go.Proofs.YtbhoeanfnbkenaaDoor
