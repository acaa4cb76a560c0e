import Derived.Test.YtbhoeanfnbkenaaDoorR34
namespace Go.Proofs.YtbhoeanfnbkenaaDoor
open Go.RowKit Go.WideMaps
set_option maxRecDepth 100000
set_option linter.unusedSimpArgs false
variable (Hy : World → Prop)
attribute [local irreducible] runM runD cwp seqQ blkQ lpQ retQ asQ bdQ bdY retP endR preD retD
set_option maxHeartbeats 8000000 in
theorem rsame_ct (a b : Ci) (ha : CRoom a) (hb : CRoom b) (hga : GSz a.gts) (hgb : GSz b.gts) : Ct Tryd.prog Hy 25 [.ag (cE a), .ag (cE b)] [.b (decide (a = b))] := by
  have h1 := rTexts_ct Hy a.ins b.ins ha.ins hb.ins
  have h2 := rTexts_ct Hy a.outs b.outs ha.outs hb.outs
  have hgg := fun x hx y hy => rsameGate_ct Hy x y (hga x hx).1 (hgb y hy).1 (hga x hx).2 (hgb y hy).2
  have l3 := ha.las
  have l4 := hb.las
  have g3 := ha.gts
  have g4 := hb.gts
  rw [sameC]
  obtain ⟨i1, o1, l1, g1⟩ := a
  obtain ⟨i2, o2, l2, g2⟩ := b
  simp only at h1 h2 hgg l3 l4 g3 g4 ⊢
  by_cases c1 : i1 = i2
  rotate_left
  · rw [decide_eq_false c1] at h1 ⊢
    refine ct_of (cls := _root_.id) tt_ok follows_ Tryd.func25 rfl (by decide) (Nat.le_of_ble_eq_true rfl) ?_
    rw [show Tryd.f25.ntmps = 76 from rfl, s0_nf]
    simp only [List.zipIdx_cons, List.zipIdx_nil, List.map_cons, List.map_nil, Nat.reduceAdd, cE]
    repeat' first | refine c_seq ?_ | refine c_reg' rfl fun K E hK hE => ?_ | (refine r_opN fun κ η => ?_; simp only [go_sem, simprocAttr, Nat.le_refl]; (repeat refine ⟨by omega, ?_⟩); refine η _ ?_; clear η κ) | (refine r_nil (hK _ ?_); clear hE hK E K) | refine q_seq ?_
    refine r_opN fun κ η => ?_; simp only [go_sem, simprocAttr, Nat.le_refl]; refine ⟨_, h1, ?_⟩; simp only [go_sem, simprocAttr, Nat.le_refl]; refine η _ ?_; clear η κ
    repeat' first | refine c_seq ?_ | refine c_reg' rfl fun K E hK hE => ?_ | ((first | refine r_opN fun κ η => ?_ | refine r_opG rfl fun κ η => ?_); simp only [go_sem, simprocAttr, Nat.le_refl]; refine η _ ?_; clear η κ) | (refine r_nil (hK _ ?_); clear hE hK E K) | refine q_seq ?_ | refine c_cond true rfl (fun _ => ?_) (fun h => (by cases h)) | refine c_ret ?_ | refine q_seqR ?_ | (refine q_ret ?_; refine q_r1 ?_; simp only [go_sem, simprocAttr, Nat.le_refl])
  rw [decide_eq_true c1] at h1 ⊢
  by_cases c2 : o1 = o2
  rotate_left
  · rw [decide_eq_false c2] at h2 ⊢
    refine ct_of (cls := _root_.id) tt_ok follows_ Tryd.func25 rfl (by decide) (Nat.le_of_ble_eq_true rfl) ?_
    rw [show Tryd.f25.ntmps = 76 from rfl, s0_nf]
    simp only [List.zipIdx_cons, List.zipIdx_nil, List.map_cons, List.map_nil, Nat.reduceAdd, cE]
    repeat' first | refine c_seq ?_ | refine c_reg' rfl fun K E hK hE => ?_ | (refine r_opN fun κ η => ?_; simp only [go_sem, simprocAttr, Nat.le_refl]; (repeat refine ⟨by omega, ?_⟩); refine η _ ?_; clear η κ) | (refine r_nil (hK _ ?_); clear hE hK E K) | refine q_seq ?_
    refine r_opN fun κ η => ?_; simp only [go_sem, simprocAttr, Nat.le_refl]; refine ⟨_, h1, ?_⟩; simp only [go_sem, simprocAttr, Nat.le_refl]; refine η _ ?_; clear η κ
    repeat' ((first | refine r_opN fun κ η => ?_ | refine r_opG rfl fun κ η => ?_); simp only [go_sem, simprocAttr, Nat.le_refl]; (repeat refine ⟨by omega, ?_⟩); refine η _ ?_; clear η κ)
    refine r_opG rfl fun κ η => ?_; simp only [go_sem, simprocAttr, Nat.le_refl]; refine ⟨_, h2, ?_⟩; simp only [go_sem, simprocAttr, Nat.le_refl]; refine η _ ?_; clear η κ
    repeat' first | refine c_seq ?_ | refine c_reg' rfl fun K E hK hE => ?_ | ((first | refine r_opN fun κ η => ?_ | refine r_opG rfl fun κ η => ?_); simp only [go_sem, simprocAttr, Nat.le_refl]; refine η _ ?_; clear η κ) | (refine r_nil (hK _ ?_); clear hE hK E K) | refine q_seq ?_ | refine c_cond true rfl (fun _ => ?_) (fun h => (by cases h)) | refine c_ret ?_ | refine q_seqR ?_ | (refine q_ret ?_; refine q_r1 ?_; simp only [go_sem, simprocAttr, Nat.le_refl])
  rw [decide_eq_true c2] at h2 ⊢
  by_cases c3 : l1.length = l2.length
  rotate_left
  · have c3' : ((l1.length : Int) = l2.length) = False := eq_false (by omega)
    rw [decide_eq_false (p := l1 = l2) (fun h => c3 (by rw [h]))]
    refine ct_of (cls := _root_.id) tt_ok follows_ Tryd.func25 rfl (by decide) (Nat.le_of_ble_eq_true rfl) ?_
    rw [show Tryd.f25.ntmps = 76 from rfl, s0_nf]
    simp only [List.zipIdx_cons, List.zipIdx_nil, List.map_cons, List.map_nil, Nat.reduceAdd, cE]
    repeat' first | refine c_seq ?_ | refine c_reg' rfl fun K E hK hE => ?_ | (refine r_opN fun κ η => ?_; simp only [go_sem, simprocAttr, Nat.le_refl]; (repeat refine ⟨by omega, ?_⟩); refine η _ ?_; clear η κ) | (refine r_nil (hK _ ?_); clear hE hK E K) | refine q_seq ?_
    refine r_opN fun κ η => ?_; simp only [go_sem, simprocAttr, Nat.le_refl]; refine ⟨_, h1, ?_⟩; simp only [go_sem, simprocAttr, Nat.le_refl]; refine η _ ?_; clear η κ
    repeat' ((first | refine r_opN fun κ η => ?_ | refine r_opG rfl fun κ η => ?_); simp only [go_sem, simprocAttr, Nat.le_refl]; (repeat refine ⟨by omega, ?_⟩); refine η _ ?_; clear η κ)
    refine r_opG rfl fun κ η => ?_; simp only [go_sem, simprocAttr, Nat.le_refl]; refine ⟨_, h2, ?_⟩; simp only [go_sem, simprocAttr, Nat.le_refl]; refine η _ ?_; clear η κ
    repeat' first | refine c_seq ?_ | refine c_reg' rfl fun K E hK hE => ?_ | ((first | refine r_opN fun κ η => ?_ | refine r_opG rfl fun κ η => ?_); simp only [go_sem, simprocAttr, Nat.le_refl, c3']; (repeat refine ⟨by omega, ?_⟩); refine η _ ?_; clear η κ) | (refine r_nil (hK _ ?_); clear hE hK E K) | refine q_seq ?_ | refine c_cond true rfl (fun _ => ?_) (fun h => (by cases h)) | refine c_ret ?_ | refine q_seqR ?_ | (refine q_ret ?_; refine q_r1 ?_; simp only [go_sem, simprocAttr, Nat.le_refl, c3'])
  have c3' : ((l1.length : Int) = l2.length) = True := eq_true (by omega)
  by_cases c4 : g1.length = g2.length
  rotate_left
  · have c4' : ((g1.length : Int) = g2.length) = False := eq_false (by omega)
    rw [decide_eq_false (p := g1 = g2) (fun h => c4 (by rw [h])), Bool.and_false, Bool.and_false, Bool.and_false]
    refine ct_of (cls := _root_.id) tt_ok follows_ Tryd.func25 rfl (by decide) (Nat.le_of_ble_eq_true rfl) ?_
    rw [show Tryd.f25.ntmps = 76 from rfl, s0_nf]
    simp only [List.zipIdx_cons, List.zipIdx_nil, List.map_cons, List.map_nil, Nat.reduceAdd, cE]
    repeat' first | refine c_seq ?_ | refine c_reg' rfl fun K E hK hE => ?_ | (refine r_opN fun κ η => ?_; simp only [go_sem, simprocAttr, Nat.le_refl]; (repeat refine ⟨by omega, ?_⟩); refine η _ ?_; clear η κ) | (refine r_nil (hK _ ?_); clear hE hK E K) | refine q_seq ?_
    refine r_opN fun κ η => ?_; simp only [go_sem, simprocAttr, Nat.le_refl]; refine ⟨_, h1, ?_⟩; simp only [go_sem, simprocAttr, Nat.le_refl]; refine η _ ?_; clear η κ
    repeat' ((first | refine r_opN fun κ η => ?_ | refine r_opG rfl fun κ η => ?_); simp only [go_sem, simprocAttr, Nat.le_refl]; (repeat refine ⟨by omega, ?_⟩); refine η _ ?_; clear η κ)
    refine r_opG rfl fun κ η => ?_; simp only [go_sem, simprocAttr, Nat.le_refl]; refine ⟨_, h2, ?_⟩; simp only [go_sem, simprocAttr, Nat.le_refl]; refine η _ ?_; clear η κ
    repeat' first | refine c_seq ?_ | refine c_reg' rfl fun K E hK hE => ?_ | ((first | refine r_opN fun κ η => ?_ | refine r_opG rfl fun κ η => ?_); simp only [go_sem, simprocAttr, Nat.le_refl, c3', c4']; (repeat refine ⟨by omega, ?_⟩); refine η _ ?_; clear η κ) | (refine r_nil (hK _ ?_); clear hE hK E K) | refine q_seq ?_ | refine c_cond true rfl (fun _ => ?_) (fun h => (by cases h)) | refine c_ret ?_ | refine q_seqR ?_ | (refine q_ret ?_; refine q_r1 ?_; simp only [go_sem, simprocAttr, Nat.le_refl, c3', c4'])
  have c4' : ((g1.length : Int) = g2.length) = True := eq_true (by omega)
  rw [Bool.true_and, Bool.true_and]
  obtain ⟨R, hR⟩ : ∃ R, R = (decide (l1 = l2) && decide (g1 = g2)) := ⟨_, rfl⟩
  rw [← hR]
  refine ct_of (cls := _root_.id) tt_ok follows_ Tryd.func25 rfl (by decide) (Nat.le_of_ble_eq_true rfl) ?_
  rw [show Tryd.f25.ntmps = 76 from rfl, s0_nf]
  simp only [List.zipIdx_cons, List.zipIdx_nil, List.map_cons, List.map_nil, Nat.reduceAdd, cE]
  repeat' first | refine c_seq ?_ | refine c_reg' rfl fun K E hK hE => ?_ | (refine r_opN fun κ η => ?_; simp only [go_sem, simprocAttr, Nat.le_refl]; (repeat refine ⟨by omega, ?_⟩); refine η _ ?_; clear η κ) | (refine r_nil (hK _ ?_); clear hE hK E K) | refine q_seq ?_
  refine r_opN fun κ η => ?_; simp only [go_sem, simprocAttr, Nat.le_refl]; refine ⟨_, h1, ?_⟩; simp only [go_sem, simprocAttr, Nat.le_refl]; refine η _ ?_; clear η κ
  repeat' ((first | refine r_opN fun κ η => ?_ | refine r_opG rfl fun κ η => ?_); simp only [go_sem, simprocAttr, Nat.le_refl]; (repeat refine ⟨by omega, ?_⟩); refine η _ ?_; clear η κ)
  refine r_opG rfl fun κ η => ?_; simp only [go_sem, simprocAttr, Nat.le_refl]; refine ⟨_, h2, ?_⟩; simp only [go_sem, simprocAttr, Nat.le_refl]; refine η _ ?_; clear η κ
  repeat' first | refine c_seq ?_ | refine c_block ?_ | refine c_reg' rfl fun K E hK hE => ?_ | ((first | refine r_opN fun κ η => ?_ | refine r_opG rfl fun κ η => ?_); simp only [go_sem, simprocAttr, Nat.le_refl, c3', c4']; (repeat refine ⟨by omega, ?_⟩); refine η _ ?_; clear η κ) | (refine r_nil (hK _ ?_); clear hE hK E K) | refine q_seq ?_ | refine c_cond false rfl (fun h => (by cases h)) fun _ => ?_ | refine c_skip ?_
  refine c_loop (fun m s' => ∃ k : Nat, m = l1.length - k ∧ k ≤ l1.length ∧ (∀ (j : Nat), j < k → l1[j]? = l2[j]?) ∧ ∃ F G0, s' = nf 76 F G0 [(2, .ptr 2 1 0), (3, .ptr 3 1 0), (5, .t (.i .i64 k))] [] ∧ G0 2 = ⟨1, .cells 26 [.t (.sl (sR i1)), .t (.sl (sR o1)), .t (.sl (lsR l1)), .t (.sl (gsR g1))]⟩ ∧ G0 3 = ⟨1, .cells 26 [.t (.sl (sR i2)), .t (.sl (sR o2)), .t (.sl (lsR l2)), .t (.sl (gsR g2))]⟩) l1.length ?_ ?_
  · exact ⟨0, by omega, by omega, fun j hj => absurd hj (Nat.not_lt_zero j), _, _, nf_of rfl ⟨rfl, rfl, rfl, trivial⟩ trivial, rfl, rfl⟩
  rintro m s' ⟨k, rfl, hk, hno, F, G0, rfl, b1, b2⟩
  by_cases hd : k < l1.length
  · have hd' : ((k : Int) < l1.length) = True := eq_true (by omega)
    obtain ⟨x, hx⟩ : ∃ x, l1[k]? = some x := ⟨_, List.getElem?_eq_getElem (by omega)⟩
    obtain ⟨y, hy⟩ : ∃ y, l2[k]? = some y := ⟨_, List.getElem?_eq_getElem (by omega)⟩
    have hx' := lsR_get hx
    have hy' := lsR_get hy
    by_cases he : x = y
    · have he' := eq_true he
      repeat' first | refine c_seq ?_ | refine c_block ?_ | refine c_reg' rfl fun K E hK hE => ?_ | refine c_draw' rfl (by kernel_rfl) fun K E hK hE => ?_ | ((first | refine r_opN fun κ η => ?_ | refine d_opN (by kernel_rfl) fun κ η => ?_); simp only [go_sem, simprocAttr, Nat.le_refl, b1, b2, hd', hx', hy', la_dec, he', decide_true]; (repeat refine ⟨by omega, ?_⟩); refine η _ ?_; clear η κ) | (refine r_nil (hK _ ?_); clear hE hK E K) | refine q_seq ?_ | refine c_cond true rfl (fun _ => ?_) (fun h => (by cases h)) | refine c_cond false rfl (fun h => (by cases h)) fun _ => ?_ | (refine d_nil (hK _ ?_); clear hE hK E K) | refine q_blk ?_ | refine c_skip ?_ | refine q_lpN ?_
      refine ⟨l1.length - (k + 1), by omega, k + 1, rfl, by omega, fun j hj => ?_, _, _, nf_of rfl ⟨rfl, rfl, rfl, trivial⟩ trivial, b1, b2⟩
      rcases Nat.lt_or_eq_of_le (Nat.lt_succ_iff.1 hj) with h | rfl
      · exact hno j h
      · rw [hx, hy, he]
    · have he' := eq_false he
      have hR0 : R = false := by
        rw [hR, decide_eq_false (p := l1 = l2), Bool.false_and]
        rintro rfl
        rw [hx] at hy
        exact he (Option.some.inj hy)
      subst hR0
      repeat' first | refine c_seq ?_ | refine c_block ?_ | refine c_reg' rfl fun K E hK hE => ?_ | refine c_draw' rfl (by kernel_rfl) fun K E hK hE => ?_ | ((first | refine r_opN fun κ η => ?_ | refine d_opN (by kernel_rfl) fun κ η => ?_); simp only [go_sem, simprocAttr, Nat.le_refl, b1, b2, hd', hx', hy', la_dec, he', decide_false]; (repeat refine ⟨by omega, ?_⟩); refine η _ ?_; clear η κ) | (refine r_nil (hK _ ?_); clear hE hK E K) | refine q_seq ?_ | refine c_cond true rfl (fun _ => ?_) (fun h => (by cases h)) | (refine d_nil (hK _ ?_); clear hE hK E K) | refine c_skip ?_ | refine c_ret ?_ | refine q_seqR ?_ | refine q_blkR ?_ | refine q_lpR ?_ | (refine q_ret ?_; refine q_r1 ?_; simp only [go_sem, simprocAttr, Nat.le_refl, b1, b2, hd', hx', hy', la_dec, he', decide_false])
  have hd' : ((k : Int) < l1.length) = False := eq_false (by omega)
  have hl : l1 = l2 := by
    refine List.ext_getElem? fun j => ?_
    by_cases hj : j < k
    · exact hno j hj
    · rw [List.getElem?_eq_none (by omega), List.getElem?_eq_none (by omega)]
  rw [decide_eq_true hl, Bool.true_and] at hR
  repeat' first | refine c_seq ?_ | refine c_block ?_ | refine c_reg' rfl fun K E hK hE => ?_ | (refine r_opN fun κ η => ?_; simp only [go_sem, simprocAttr, Nat.le_refl, b1, b2, hd']; (repeat refine ⟨by omega, ?_⟩); refine η _ ?_; clear η κ) | (refine r_nil (hK _ ?_); clear hE hK E K) | refine q_seq ?_ | refine c_cond false rfl (fun h => (by cases h)) fun _ => ?_ | refine c_exit ?_ | refine q_seqE ?_ | refine q_blkHit ?_ | refine q_lpE ?_
  refine c_loop (fun m s' => ∃ k : Nat, m = g1.length - k ∧ k ≤ g1.length ∧ (∀ (j : Nat), j < k → g1[j]? = g2[j]?) ∧ ∃ F G0, s' = nf 76 F G0 [(2, .ptr 2 1 0), (3, .ptr 3 1 0), (6, .t (.i .i64 k))] [] ∧ G0 2 = ⟨1, .cells 26 [.t (.sl (sR i1)), .t (.sl (sR o1)), .t (.sl (lsR l1)), .t (.sl (gsR g1))]⟩ ∧ G0 3 = ⟨1, .cells 26 [.t (.sl (sR i2)), .t (.sl (sR o2)), .t (.sl (lsR l2)), .t (.sl (gsR g2))]⟩) g1.length ?_ ?_
  · exact ⟨0, by omega, by omega, fun j hj => absurd hj (Nat.not_lt_zero j), _, _, nf_of rfl ⟨rfl, rfl, rfl, trivial⟩ trivial, b1, b2⟩
  clear b1 b2 hd hd' hno hk
  rintro m s' ⟨k, rfl, hk, hno, F, G0, rfl, b1, b2⟩
  by_cases hd : k < g1.length
  · have hd' : ((k : Int) < g1.length) = True := eq_true (by omega)
    obtain ⟨x, hx⟩ : ∃ x, g1[k]? = some x := ⟨_, List.getElem?_eq_getElem (by omega)⟩
    obtain ⟨y, hy⟩ : ∃ y, g2[k]? = some y := ⟨_, List.getElem?_eq_getElem (by omega)⟩
    have hx' := gsR_get hx
    have hy' := gsR_get hy
    have hg := hgg x (List.mem_of_getElem? hx) y (List.mem_of_getElem? hy)
    simp only [gT] at hg
    by_cases he : x = y
    · rw [decide_eq_true he] at hg
      repeat' first | refine c_seq ?_ | refine c_block ?_ | refine c_reg' rfl fun K E hK hE => ?_ | refine c_draw' rfl (by kernel_rfl) fun K E hK hE => ?_ | ((first | refine r_opN fun κ η => ?_ | refine d_opN (by kernel_rfl) fun κ η => ?_); simp only [go_sem, simprocAttr, Nat.le_refl, b1, b2, hd', hx', hy']; (repeat refine ⟨by omega, ?_⟩); refine η _ ?_; clear η κ) | (refine r_nil (hK _ ?_); clear hE hK E K) | refine q_seq ?_ | refine c_cond true rfl (fun _ => ?_) (fun h => (by cases h)) | refine c_skip ?_
      refine d_opN (by kernel_rfl) fun κ η => ?_; simp only [go_sem, simprocAttr, Nat.le_refl]; refine ⟨_, hg, ?_⟩; simp only [go_sem, simprocAttr, Nat.le_refl]; refine η _ ?_; clear η κ
      repeat' first | refine c_reg' rfl fun K E hK hE => ?_ | ((first | refine r_opN fun κ η => ?_ | refine d_opN (by kernel_rfl) fun κ η => ?_); simp only [go_sem, simprocAttr, Nat.le_refl]; (repeat refine ⟨by omega, ?_⟩); refine η _ ?_; clear η κ) | (refine r_nil (hK _ ?_); clear hE hK E K) | refine q_seq ?_ | refine c_cond false rfl (fun h => (by cases h)) fun _ => ?_ | (refine d_nil (hK _ ?_); clear hE hK E K) | refine q_blk ?_ | refine c_skip ?_ | refine q_lpN ?_
      refine ⟨g1.length - (k + 1), by omega, k + 1, rfl, by omega, fun j hj => ?_, _, _, nf_of rfl ⟨rfl, rfl, rfl, trivial⟩ trivial, b1, b2⟩
      rcases Nat.lt_or_eq_of_le (Nat.lt_succ_iff.1 hj) with h | rfl
      · exact hno j h
      · rw [hx, hy, he]
    · rw [decide_eq_false he] at hg
      have hR0 : R = false := by
        rw [hR, decide_eq_false (p := g1 = g2)]
        rintro rfl
        rw [hx] at hy
        exact he (Option.some.inj hy)
      subst hR0
      repeat' first | refine c_seq ?_ | refine c_block ?_ | refine c_reg' rfl fun K E hK hE => ?_ | refine c_draw' rfl (by kernel_rfl) fun K E hK hE => ?_ | ((first | refine r_opN fun κ η => ?_ | refine d_opN (by kernel_rfl) fun κ η => ?_); simp only [go_sem, simprocAttr, Nat.le_refl, b1, b2, hd', hx', hy']; (repeat refine ⟨by omega, ?_⟩); refine η _ ?_; clear η κ) | (refine r_nil (hK _ ?_); clear hE hK E K) | refine q_seq ?_ | refine c_cond true rfl (fun _ => ?_) (fun h => (by cases h)) | refine c_skip ?_
      refine d_opN (by kernel_rfl) fun κ η => ?_; simp only [go_sem, simprocAttr, Nat.le_refl]; refine ⟨_, hg, ?_⟩; simp only [go_sem, simprocAttr, Nat.le_refl]; refine η _ ?_; clear η κ
      repeat' first | refine c_seq ?_ | refine c_reg' rfl fun K E hK hE => ?_ | ((first | refine r_opN fun κ η => ?_ | refine d_opN (by kernel_rfl) fun κ η => ?_); simp only [go_sem, simprocAttr, Nat.le_refl]; refine η _ ?_; clear η κ) | (refine r_nil (hK _ ?_); clear hE hK E K) | refine q_seq ?_ | refine c_cond true rfl (fun _ => ?_) (fun h => (by cases h)) | (refine d_nil (hK _ ?_); clear hE hK E K) | refine c_ret ?_ | refine q_seqR ?_ | refine q_blkR ?_ | refine q_lpR ?_ | (refine q_ret ?_; refine q_r1 ?_; simp only [go_sem, simprocAttr, Nat.le_refl])
  have hd' : ((k : Int) < g1.length) = False := eq_false (by omega)
  have hR1 : R = true := by
    rw [hR, decide_eq_true_eq]
    refine List.ext_getElem? fun j => ?_
    by_cases hj : j < k
    · exact hno j hj
    · rw [List.getElem?_eq_none (by omega), List.getElem?_eq_none (by omega)]
  subst hR1
  repeat' first | refine c_seq ?_ | refine c_reg' rfl fun K E hK hE => ?_ | (refine r_opN fun κ η => ?_; simp only [go_sem, simprocAttr, Nat.le_refl, b1, b2, hd']; (repeat refine ⟨by omega, ?_⟩); refine η _ ?_; clear η κ) | (refine r_nil (hK _ ?_); clear hE hK E K) | refine q_seq ?_ | refine c_cond false rfl (fun h => (by cases h)) fun _ => ?_ | refine c_exit ?_ | refine c_ret ?_ | refine q_seqE ?_ | refine q_blkHit ?_ | refine q_lpE ?_ | (refine q_ret ?_; refine q_r1 ?_; simp only [go_sem, simprocAttr, Nat.le_refl, b1, b2, hd'])
end Go.Proofs.YtbhoeanfnbkenaaDoor
