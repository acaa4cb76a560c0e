import Derived.Test.YtbhoeanfnbkenaaDoorY1
import Derived.Test.YtbhoeanfnbkenaaDoorQ5
namespace Go.Proofs.YtbhoeanfnbkenaaDoor
open Go.RowKit Go.WideMaps
set_option maxRecDepth 100000
set_option linter.unusedSimpArgs false
variable (Hy : World → Prop)
attribute [local irreducible] runM runD cwp seqQ blkQ lpQ retQ asQ bdQ bdY retP endR preD retD
theorem may_200 {c : Ci} (h : MayC c) : (c.ins.length + c.las.length + c.gts.length ≤ 200 ∧ c.outs.length ≤ 200) ∧ ∀ g ∈ c.gts, g.ins.length ≤ 8 ∧ g.rows.length ≤ 128 := by
  have := h.lim
  unfold limitB at this
  simp only [Bool.or_eq_false_iff, decide_eq_false_iff_not, List.any_eq_false] at this
  refine ⟨⟨by omega, by omega⟩, fun g hg => ?_⟩
  have := this.2.2 g hg
  unfold bigG at this
  simp only [Bool.or_eq_true, decide_eq_true_eq, not_or] at this
  omega
def mayAt (las : List La) (st : List Bool) (k : Nat) : Bool := decide ((lat las k).init = 2) || (st.getD k false == decide ((lat las k).init = 1))
def allowedB (c : Ci) (st : List Bool) : Bool := decide ((checkO c).1 = 0) && (decide (st.length = c.las.length) && (List.range c.las.length).all (mayAt c.las st))
theorem mayAt_get {las : List La} {st : List Bool} {k : Nat} {x : La} {v : Bool} (hx : las[k]? = some x) (hv : st[k]? = some v) : mayAt las st k = (decide (x.init = 2) || (v == decide (x.init = 1))) := by
  unfold mayAt
  rw [lat_get hx, List.getD_eq_getElem?_getD, hv]
  rfl
set_option maxHeartbeats 4000000 in
theorem allowed_ct (c : Ci) (st : List Bool) (hr : CRoom c) (hgo : GOk c.gts) (hlo : LOk c.las) : Ct Tryd.prog Hy 42 [.ag (cE c), .sl (bl st)] [.b (allowedB c st)] := by
  have hmb := smayBe_ct Hy c hr hgo hlo
  by_cases h0 : (checkO c).1 = 0
  rotate_left
  · rw [show allowedB c st = false by unfold allowedB; rw [decide_eq_false h0]; rfl]
    rw [decide_eq_false h0] at hmb
    obtain ⟨ins, outs, las, gts⟩ := c
    simp only [cE] at hmb ⊢
    refine ct_of (cls := _root_.id) tt_ok follows_ Tryd.func42 rfl (by decide) (Nat.le_of_ble_eq_true rfl) ?_
    rw [show Tryd.f42.ntmps = 40 from rfl, s0_nf]
    simp only [List.zipIdx_cons, List.zipIdx_nil, List.map_cons, List.map_nil, Nat.reduceAdd]
    repeat' first | refine c_seq ?_ | refine c_reg' rfl fun K E hK hE => ?_ | (refine r_opN fun κ η => ?_; simp only [go_sem, simprocAttr, Nat.le_refl]; refine η _ ?_; clear η κ) | (refine r_nil (hK _ ?_); clear hE hK E K) | refine q_seq ?_
    refine r_opN fun κ η => ?_; simp only [go_sem, simprocAttr, Nat.le_refl]; refine ⟨_, hmb, ?_⟩; simp only [go_sem, simprocAttr, Nat.le_refl]; refine η _ ?_; clear η κ
    repeat' first | refine c_seq ?_ | refine c_reg' rfl fun K E hK hE => ?_ | ((first | refine r_opN fun κ η => ?_ | refine r_opG rfl fun κ η => ?_); simp only [go_sem, simprocAttr, Nat.le_refl]; refine η _ ?_; clear η κ) | (refine r_nil (hK _ ?_); clear hE hK E K) | refine q_seq ?_ | refine c_cond true rfl (fun _ => ?_) (fun h => (by cases h)) | refine c_ret ?_ | refine q_seqR ?_ | (refine q_ret ?_; refine q_r1 ?_; simp only [go_sem, simprocAttr, Nat.le_refl])
  rw [decide_eq_true h0] at hmb
  obtain ⟨⟨hn, _⟩, _⟩ := may_200 ((checkO_iff c).1 h0).1
  have hR : allowedB c st = (decide (st.length = c.las.length) && (List.range c.las.length).all (mayAt c.las st)) := by unfold allowedB; rw [decide_eq_true h0]; rfl
  rw [hR]
  clear hR h0
  by_cases hl : st.length = c.las.length
  rotate_left
  · rw [decide_eq_false hl]
    have hl' : ((st.length : Int) = c.las.length) = False := eq_false (by omega)
    obtain ⟨ins, outs, las, gts⟩ := c
    simp only [cE] at hmb hl' ⊢
    refine ct_of (cls := _root_.id) tt_ok follows_ Tryd.func42 rfl (by decide) (Nat.le_of_ble_eq_true rfl) ?_
    rw [show Tryd.f42.ntmps = 40 from rfl, s0_nf]
    simp only [List.zipIdx_cons, List.zipIdx_nil, List.map_cons, List.map_nil, Nat.reduceAdd]
    repeat' first | refine c_seq ?_ | refine c_reg' rfl fun K E hK hE => ?_ | (refine r_opN fun κ η => ?_; simp only [go_sem, simprocAttr, Nat.le_refl]; refine η _ ?_; clear η κ) | (refine r_nil (hK _ ?_); clear hE hK E K) | refine q_seq ?_
    refine r_opN fun κ η => ?_; simp only [go_sem, simprocAttr, Nat.le_refl]; refine ⟨_, hmb, ?_⟩; simp only [go_sem, simprocAttr, Nat.le_refl]; refine η _ ?_; clear η κ
    repeat' first | refine c_seq ?_ | refine c_reg' rfl fun K E hK hE => ?_ | ((first | refine r_opN fun κ η => ?_ | refine r_opG rfl fun κ η => ?_); simp only [go_sem, simprocAttr, Nat.le_refl, hl']; (repeat refine ⟨by omega, ?_⟩); refine η _ ?_; clear η κ) | (refine r_nil (hK _ ?_); clear hE hK E K) | refine q_seq ?_ | refine c_cond true rfl (fun _ => ?_) (fun h => (by cases h)) | refine c_ret ?_ | refine q_seqR ?_ | (refine q_ret ?_; refine q_r1 ?_; simp only [go_sem, simprocAttr, Nat.le_refl, hl'])
  rw [decide_eq_true hl, Bool.true_and]
  have hl' : ((st.length : Int) = c.las.length) = True := eq_true (by omega)
  obtain ⟨ins, outs, las, gts⟩ := c
  simp only [cE] at hmb hl' hl hn ⊢
  obtain ⟨R, hR⟩ : ∃ R, R = (List.range las.length).all (mayAt las st) := ⟨_, rfl⟩
  rw [← hR]
  refine ct_of (cls := _root_.id) tt_ok follows_ Tryd.func42 rfl (by decide) (Nat.le_of_ble_eq_true rfl) ?_
  rw [show Tryd.f42.ntmps = 40 from rfl, s0_nf]
  simp only [List.zipIdx_cons, List.zipIdx_nil, List.map_cons, List.map_nil, Nat.reduceAdd]
  repeat' first | refine c_seq ?_ | refine c_reg' rfl fun K E hK hE => ?_ | (refine r_opN fun κ η => ?_; simp only [go_sem, simprocAttr, Nat.le_refl]; refine η _ ?_; clear η κ) | (refine r_nil (hK _ ?_); clear hE hK E K) | refine q_seq ?_
  refine r_opN fun κ η => ?_; simp only [go_sem, simprocAttr, Nat.le_refl]; refine ⟨_, hmb, ?_⟩; simp only [go_sem, simprocAttr, Nat.le_refl]; refine η _ ?_; clear η κ
  repeat' first | refine c_seq ?_ | refine c_block ?_ | refine c_reg' rfl fun K E hK hE => ?_ | ((first | refine r_opN fun κ η => ?_ | refine r_opG rfl fun κ η => ?_); simp only [go_sem, simprocAttr, Nat.le_refl, hl']; (repeat refine ⟨by omega, ?_⟩); refine η _ ?_; clear η κ) | (refine r_nil (hK _ ?_); clear hE hK E K) | refine q_seq ?_ | refine c_cond false rfl (fun h => (by cases h)) fun _ => ?_ | refine c_skip ?_
  refine c_loop (fun m s' => ∃ k : Nat, m = las.length - k ∧ k ≤ las.length ∧ (∀ j, j < k → mayAt las st j = true) ∧ ∃ F G0, s' = nf 40 F G0 [(1, .t (.sl (bl st))), (2, .ptr 2 1 0), (19, .t (.sl (lsR las))), (20, .t (.i .i64 las.length)), (21, .t (.i .i64 k))] [] ∧ G0 2 = ⟨1, .cells 26 [.t (.sl (sR ins)), .t (.sl (sR outs)), .t (.sl (lsR las)), .t (.sl (gsR gts))]⟩) las.length ?_ ?_
  · exact ⟨0, by omega, by omega, fun j hj => absurd hj (Nat.not_lt_zero j), _, _, nf_of rfl ⟨rfl, rfl, rfl, rfl, rfl, trivial⟩ trivial, rfl⟩
  rintro m s' ⟨k, rfl, hk, hno, F, G0, rfl, b2⟩
  by_cases hd : k < las.length
  · have hd' : ((k : Int) < las.length) = True := eq_true (by omega)
    obtain ⟨x, hx⟩ : ∃ x, las[k]? = some x := ⟨_, List.getElem?_eq_getElem hd⟩
    obtain ⟨v, hv⟩ : ∃ v, st[k]? = some v := ⟨_, List.getElem?_eq_getElem (by omega)⟩
    have hx' := lsR_get hx
    have hv' := bl_get hv
    have hok := mayAt_get hx hv
    have hnext : mayAt las st k = true → ∀ j, j < k + 1 → mayAt las st j = true := fun h j hj => by
      rcases Nat.lt_or_eq_of_le (Nat.lt_succ_iff.1 hj) with h1 | rfl
      · exact hno j h1
      · exact h
    by_cases c2 : x.init = 2
    · have c2' := eq_true c2
      rw [decide_eq_true c2, Bool.true_or] at hok
      repeat' first | refine c_seq ?_ | refine c_block ?_ | refine c_reg' rfl fun K E hK hE => ?_ | refine c_draw' rfl (by kernel_rfl) fun K E hK hE => ?_ | ((first | refine r_opN fun κ η => ?_ | refine d_opN (by kernel_rfl) fun κ η => ?_ | refine d_opG (by kernel_rfl) rfl fun κ η => ?_); simp only [go_sem, simprocAttr, Nat.le_refl, b2, hd', hx', c2', decide_true]; (repeat refine ⟨by omega, ?_⟩); refine η _ ?_; clear η κ) | (refine r_nil (hK _ ?_); clear hE hK E K) | refine q_seq ?_ | refine c_cond true rfl (fun _ => ?_) (fun h => (by cases h)) | refine c_cond false rfl (fun h => (by cases h)) fun _ => ?_ | (refine d_nil (hK _ ?_); clear hE hK E K) | refine q_blk ?_ | refine c_skip ?_ | refine q_lpN ?_
      exact ⟨las.length - (k + 1), by omega, k + 1, rfl, by omega, hnext hok, _, _, nf_of rfl ⟨rfl, rfl, rfl, rfl, rfl, trivial⟩ trivial, b2⟩
    · have c2' := eq_false c2
      rw [decide_eq_false c2, Bool.false_or] at hok
      have hne : (v != decide (x.init = 1)) = !(v == decide (x.init = 1)) := rfl
      cases he : (v == decide (x.init = 1)) with
      | true =>
        rw [he] at hok
        repeat' first | refine c_seq ?_ | refine c_block ?_ | refine c_reg' rfl fun K E hK hE => ?_ | refine c_draw' rfl (by kernel_rfl) fun K E hK hE => ?_ | ((first | refine r_opN fun κ η => ?_ | refine d_opN (by kernel_rfl) fun κ η => ?_ | refine d_opG (by kernel_rfl) rfl fun κ η => ?_); simp only [go_sem, simprocAttr, Nat.le_refl, b2, hd', hx', hv', c2', decide_false, hne, he]; (repeat refine ⟨by omega, ?_⟩); refine η _ ?_; clear η κ) | (refine r_nil (hK _ ?_); clear hE hK E K) | refine q_seq ?_ | refine c_cond true rfl (fun _ => ?_) (fun h => (by cases h)) | refine c_cond false rfl (fun h => (by cases h)) fun _ => ?_ | (refine d_nil (hK _ ?_); clear hE hK E K) | refine q_blk ?_ | refine c_skip ?_ | refine q_lpN ?_
        exact ⟨las.length - (k + 1), by omega, k + 1, rfl, by omega, hnext hok, _, _, nf_of rfl ⟨rfl, rfl, rfl, rfl, rfl, trivial⟩ trivial, b2⟩
      | false =>
        rw [he] at hok
        obtain rfl : R = false := by
          rw [hR, List.all_eq_false]
          exact ⟨k, List.mem_range.2 hd, by rw [hok]; decide⟩
        repeat' first | refine c_seq ?_ | refine c_block ?_ | refine c_reg' rfl fun K E hK hE => ?_ | refine c_draw' rfl (by kernel_rfl) fun K E hK hE => ?_ | ((first | refine r_opN fun κ η => ?_ | refine d_opN (by kernel_rfl) fun κ η => ?_ | refine d_opG (by kernel_rfl) rfl fun κ η => ?_); simp only [go_sem, simprocAttr, Nat.le_refl, b2, hd', hx', hv', c2', decide_false, hne, he]; (repeat refine ⟨by omega, ?_⟩); refine η _ ?_; clear η κ) | (refine r_nil (hK _ ?_); clear hE hK E K) | refine q_seq ?_ | refine c_cond true rfl (fun _ => ?_) (fun h => (by cases h)) | (refine d_nil (hK _ ?_); clear hE hK E K) | refine c_skip ?_ | refine c_ret ?_ | refine q_seqR ?_ | refine q_blkR ?_ | refine q_lpR ?_ | (refine q_ret ?_; refine q_r1 ?_; simp only [go_sem, simprocAttr, Nat.le_refl, b2, hd', hx', hv', c2', decide_false, hne, he])
  have hd' : ((k : Int) < las.length) = False := eq_false (by omega)
  obtain rfl : R = true := by
    rw [hR, List.all_eq_true]
    exact fun j hj => hno j (by have := List.mem_range.1 hj; omega)
  repeat' first | refine c_seq ?_ | refine c_reg' rfl fun K E hK hE => ?_ | (refine r_opN fun κ η => ?_; simp only [go_sem, simprocAttr, Nat.le_refl, b2, hd']; refine η _ ?_; clear η κ) | (refine r_nil (hK _ ?_); clear hE hK E K) | refine q_seq ?_ | refine c_cond false rfl (fun h => (by cases h)) fun _ => ?_ | refine c_exit ?_ | refine c_ret ?_ | refine q_seqE ?_ | refine q_blkHit ?_ | refine q_lpE ?_ | (refine q_ret ?_; refine q_r1 ?_; simp only [go_sem, simprocAttr, Nat.le_refl, b2, hd'])
theorem cloneB_cd (w : List Bool) (h : w.length ≤ 1000000) {o : Nat → O} {R : List Nat} (hR : 2305 ∈ R) : Cd Tryd.prog Hy 75 [.t (.sl (bl w))] o R [(2305, ⟨(o 2305).gen + 1 + 1, .row 4 1 (bl w)⟩)] (.row 2305 ((o 2305).gen + 1 + 1)) := by
  intro o2 ho
  rw [← ho 2305 hR]
  clear ho
  have hz := bl_one w
  have hbl := bl_len w
  generalize bl w = w at *
  refine Cm.nilRow (R := NilOr (w = []) o2 [.row 2305 ((o2 2305).gen + 1 + 1)] fun j => lookO [(2305, ⟨(o2 2305).gen + 1 + 1, .row 4 1 w⟩)] j (o2 j)) ?_ (fun rs o' hr => ?_)
  · refine cm_of (cls := fun d => 2300 + d) tt_ok follows_ Tryd.func75 rfl (by decide) (Nat.le_of_ble_eq_true rfl) ?_
    rw [show Tryd.f75.ntmps = 8 from rfl, s0_nf]
    simp only [List.zipIdx_cons, List.zipIdx_nil, List.map_cons, List.map_nil, Nat.reduceAdd]
    repeat' first | refine c_seq ?_ | refine c_reg' rfl fun K E hK hE => ?_ | (refine r_opN fun κ η => ?_; simp only [go_sem, simprocAttr, Nat.le_refl]; refine η _ ?_; clear η κ) | (refine r_nil (hK _ ?_); clear hE hK E K) | refine q_seq ?_
    refine r_nilE fun κ η => ?_; simp only [go_sem, simprocAttr, Nat.le_refl]; refine ⟨η _ ?_, fun nil_ => η _ ?_⟩ <;> clear η κ
    · repeat' first | (refine r_nil (hK _ ?_); clear hE hK E K) | refine q_seq ?_
      refine c_cond _ rfl (fun hq => (by cases hq)) (fun hq => ?_)
      repeat' first | refine c_seq ?_ | refine c_reg' rfl fun K E hK hE => ?_ | (refine r_opN fun κ η => ?_; simp only [go_sem, simprocAttr, Nat.le_refl, hz]; (repeat refine ⟨by omega, ?_⟩); refine η _ ?_; clear η κ) | (refine r_nil (hK _ ?_); clear hE hK E K) | refine q_seq ?_ | refine c_skip ?_ | refine c_ret ?_ | (refine q_ret ?_; refine q_r1 ?_; simp only [go_sem, simprocAttr, Nat.le_refl, hz])
      refine .inl ⟨rfl, funext fun j => ?_⟩
      rw [nf_oj]
      by_cases hj : j = 2305
      · subst hj; rfl
      · simp only [lookO, hj, if_false]
    · repeat' first | (refine r_nil (hK _ ?_); clear hE hK E K) | refine q_seq ?_
      refine c_cond _ rfl (fun hq => ?_) (fun hq => (by cases hq))
      repeat' first | refine c_seq ?_ | refine c_reg' rfl fun K E hK hE => ?_ | (refine r_opN fun κ η => ?_; simp only [go_sem, simprocAttr, Nat.le_refl, nil_]; refine η _ ?_; clear η κ) | (refine r_nil (hK _ ?_); clear hE hK E K) | refine q_seq ?_ | refine c_ret ?_ | refine q_seqR ?_ | (refine q_ret ?_; refine q_r1 ?_; simp only [go_sem, simprocAttr, Nat.le_refl, nil_])
      exact .inr ⟨trivial, rfl, rfl⟩
  · rcases hr with ⟨rfl, rfl⟩ | ⟨rfl, rfl, rfl⟩
    · exact .inl ⟨rfl, rfl⟩
    · exact .inr ⟨rfl, 2305, (o' 2305).gen + 1 + 1, 4, 1, by omega, rfl, rfl⟩
end Go.Proofs.YtbhoeanfnbkenaaDoor
