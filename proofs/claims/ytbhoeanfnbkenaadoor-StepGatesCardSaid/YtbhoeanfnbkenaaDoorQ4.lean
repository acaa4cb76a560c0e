import Derived.Test.YtbhoeanfnbkenaaDoorQ3
namespace Go.Proofs.YtbhoeanfnbkenaaDoor
open Go.RowKit
set_option maxRecDepth 100000
set_option linter.unusedSimpArgs false
variable (Hy : World → Prop)
attribute [local irreducible] runM runD cwp seqQ blkQ lpQ retQ asQ bdQ bdY retP endR preD retD
def askV (g : Gt) (ins : List Bool) : Bool :=
  if g.op ≤ 1 then false else if g.op = 2 ∨ g.op = 4 ∨ g.op = 5 then !decide (false ∈ ins) else if g.op = 3 ∨ g.op = 6 ∨ g.op = 7 then decide (true ∈ ins)
  else if g.op = 8 ∨ g.op = 9 then oddB ins else g.rows.any fun r => fitB r ins
def turnsB (g : Gt) : Bool := decide (g.op = 1 ∨ g.op = 3 ∨ g.op = 5 ∨ g.op = 7 ∨ g.op = 9) || (decide (g.op = 10) && g.off)
def gateV (g : Gt) (ins : List Bool) : Bool := turnsB g != askV g ins
def askF (op : Int) : FuncId :=
  if op ≤ 1 then 97 else if op = 2 ∨ op = 4 ∨ op = 5 then 98 else if op = 3 ∨ op = 6 ∨ op = 7 then 100 else if op = 8 ∨ op = 9 then 101 else 102
def turnF (g : Gt) : FuncId := if turnsB g = true then 96 else 95
theorem turn_cd (g : Gt) (b : Bool) {o : Nat → O} {R : List Nat} : Cd Tryd.prog Hy (turnF g) [.t (.b b)] o R [] (.t (.b (turnsB g != b))) := by
  intro o2 _
  unfold turnF
  cases turnsB g with
  | true =>
    rw [if_pos rfl]
    have h : Ct Tryd.prog Hy 96 [.b b] [.b !b] := by
      refine ct_of (cls := _root_.id) tt_ok follows_ Tryd.func96 rfl (by decide) (Nat.le_of_ble_eq_true rfl) ?_
      rw [show Tryd.f96.ntmps = 5 from rfl, s0_nf]
      simp only [List.zipIdx_cons, List.zipIdx_nil, List.map_cons, List.map_nil, Nat.reduceAdd]
      repeat' first | refine c_seq ?_ | refine c_block ?_ | refine c_reg' rfl fun K E hK hE => ?_ | refine c_draw' rfl (by kernel_rfl) fun K E hK hE => ?_ | ((first | refine r_opN fun κ η => ?_ | refine r_opG rfl fun κ η => ?_ | refine d_opN (by kernel_rfl) fun κ η => ?_ | refine d_opG (by kernel_rfl) rfl fun κ η => ?_); simp only [go_sem, simprocAttr, Nat.le_refl]; (repeat refine ⟨by (first | omega | assumption | exact ⟨_, rfl⟩ | exact ⟨_, rfl, rfl⟩), ?_⟩); refine η _ ?_; clear η κ) | (refine r_nil (hK _ ?_); clear hE hK E K) | refine q_seq ?_ | (refine d_nil (hK _ ?_); clear hE hK E K) | refine q_blk ?_ | refine c_skip ?_ | refine c_exit ?_ | refine c_ret ?_ | refine q_seqE ?_ | refine q_blkHit ?_ | refine q_blkMiss rfl ?_ | refine q_lpE ?_ | refine q_seqR ?_ | refine q_blkR ?_ | refine q_lpR ?_ | refine q_lpN ?_ | refine q_eN ?_ | refine q_eT ?_ | refine q_pre ?_ | refine q_seqP ?_ | refine q_blkP ?_ | refine q_lpP ?_ | ((first | refine q_ret ?_ | refine q_end ?_); (first | refine q_r1 ?_ | refine q_rc ?_ | refine q_r0 ?_); simp only [go_sem, simprocAttr, Nat.le_refl])
    have := Cm.of_ct (o := o2) h
    exact this.mono (by rintro rs o' ⟨rfl, rfl⟩; exact ⟨by simp [resM], rfl⟩)
  | false =>
    rw [if_neg (by decide)]
    have h : Ct Tryd.prog Hy 95 [.b b] [.b b] := by
      refine ct_of (cls := _root_.id) tt_ok follows_ Tryd.func95 rfl (by decide) (Nat.le_of_ble_eq_true rfl) ?_
      rw [show Tryd.f95.ntmps = 4 from rfl, s0_nf]
      simp only [List.zipIdx_cons, List.zipIdx_nil, List.map_cons, List.map_nil, Nat.reduceAdd]
      repeat' first | refine c_seq ?_ | refine c_block ?_ | refine c_reg' rfl fun K E hK hE => ?_ | refine c_draw' rfl (by kernel_rfl) fun K E hK hE => ?_ | ((first | refine r_opN fun κ η => ?_ | refine r_opG rfl fun κ η => ?_ | refine d_opN (by kernel_rfl) fun κ η => ?_ | refine d_opG (by kernel_rfl) rfl fun κ η => ?_); simp only [go_sem, simprocAttr, Nat.le_refl]; (repeat refine ⟨by (first | omega | assumption | exact ⟨_, rfl⟩ | exact ⟨_, rfl, rfl⟩), ?_⟩); refine η _ ?_; clear η κ) | (refine r_nil (hK _ ?_); clear hE hK E K) | refine q_seq ?_ | (refine d_nil (hK _ ?_); clear hE hK E K) | refine q_blk ?_ | refine c_skip ?_ | refine c_exit ?_ | refine c_ret ?_ | refine q_seqE ?_ | refine q_blkHit ?_ | refine q_blkMiss rfl ?_ | refine q_lpE ?_ | refine q_seqR ?_ | refine q_blkR ?_ | refine q_lpR ?_ | refine q_lpN ?_ | refine q_eN ?_ | refine q_eT ?_ | refine q_pre ?_ | refine q_seqP ?_ | refine q_blkP ?_ | refine q_lpP ?_ | ((first | refine q_ret ?_ | refine q_end ?_); (first | refine q_r1 ?_ | refine q_rc ?_ | refine q_r0 ?_); simp only [go_sem, simprocAttr, Nat.le_refl])
    have := Cm.of_ct (o := o2) h
    exact this.mono (by rintro rs o' ⟨rfl, rfl⟩; exact ⟨by simp [resM], rfl⟩)
theorem askF_ct (g : Gt) (ins : List Bool) (hop : 0 ≤ g.op ∧ g.op ≤ 9) (hl : ins.length ≤ 1000000) : Ct Tryd.prog Hy (askF g.op) [bL ins] [.b (askV g ins)] := by
  have hc0 := containsB_ct Hy ins false hl
  have hc1 := containsB_ct Hy ins true hl
  unfold askF askV
  by_cases c1 : g.op ≤ 1
  · rw [if_pos c1, if_pos c1]
    refine ct_of (cls := _root_.id) tt_ok follows_ Tryd.func97 rfl (by decide) (Nat.le_of_ble_eq_true rfl) ?_
    rw [show Tryd.f97.ntmps = 3 from rfl, s0_nf]
    simp only [List.zipIdx_cons, List.zipIdx_nil, List.map_cons, List.map_nil, Nat.reduceAdd]
    repeat' first | refine c_seq ?_ | refine c_block ?_ | refine c_reg' rfl fun K E hK hE => ?_ | refine c_draw' rfl (by kernel_rfl) fun K E hK hE => ?_ | ((first | refine r_opN fun κ η => ?_ | refine r_opG rfl fun κ η => ?_ | refine d_opN (by kernel_rfl) fun κ η => ?_ | refine d_opG (by kernel_rfl) rfl fun κ η => ?_); simp only [go_sem, simprocAttr, Nat.le_refl]; (repeat refine ⟨by (first | omega | assumption | exact ⟨_, rfl⟩ | exact ⟨_, rfl, rfl⟩), ?_⟩); refine η _ ?_; clear η κ) | (refine r_nil (hK _ ?_); clear hE hK E K) | refine q_seq ?_ | (refine d_nil (hK _ ?_); clear hE hK E K) | refine q_blk ?_ | refine c_skip ?_ | refine c_exit ?_ | refine c_ret ?_ | refine q_seqE ?_ | refine q_blkHit ?_ | refine q_blkMiss rfl ?_ | refine q_lpE ?_ | refine q_seqR ?_ | refine q_blkR ?_ | refine q_lpR ?_ | refine q_lpN ?_ | refine q_eN ?_ | refine q_eT ?_ | refine q_pre ?_ | refine q_seqP ?_ | refine q_blkP ?_ | refine q_lpP ?_ | ((first | refine q_ret ?_ | refine q_end ?_); (first | refine q_r1 ?_ | refine q_rc ?_ | refine q_r0 ?_); simp only [go_sem, simprocAttr, Nat.le_refl])
  rw [if_neg c1, if_neg c1]
  by_cases c2 : g.op = 2 ∨ g.op = 4 ∨ g.op = 5
  · rw [if_pos c2, if_pos c2]
    simp only [bL] at hc0
    refine ct_of (cls := _root_.id) tt_ok follows_ Tryd.func98 rfl (by decide) (Nat.le_of_ble_eq_true rfl) ?_
    rw [show Tryd.f98.ntmps = 6 from rfl, s0_nf]
    simp only [List.zipIdx_cons, List.zipIdx_nil, List.map_cons, List.map_nil, Nat.reduceAdd, bL]
    repeat' first | refine c_seq ?_ | refine c_block ?_ | refine c_reg' rfl fun K E hK hE => ?_ | refine c_draw' rfl (by kernel_rfl) fun K E hK hE => ?_ | ((first | refine r_opN fun κ η => ?_ | refine r_opG rfl fun κ η => ?_ | refine d_opN (by kernel_rfl) fun κ η => ?_ | refine d_opG (by kernel_rfl) rfl fun κ η => ?_); simp only [go_sem, simprocAttr, Nat.le_refl]; (repeat refine ⟨by (first | omega | assumption | exact ⟨_, rfl⟩ | exact ⟨_, rfl, rfl⟩), ?_⟩); refine η _ ?_; clear η κ) | (refine r_nil (hK _ ?_); clear hE hK E K) | refine q_seq ?_ | (refine d_nil (hK _ ?_); clear hE hK E K) | refine q_blk ?_ | refine c_skip ?_ | refine c_exit ?_ | refine c_ret ?_ | refine q_seqE ?_ | refine q_blkHit ?_ | refine q_blkMiss rfl ?_ | refine q_lpE ?_ | refine q_seqR ?_ | refine q_blkR ?_ | refine q_lpR ?_ | refine q_lpN ?_ | refine q_eN ?_ | refine q_eT ?_ | refine q_pre ?_ | refine q_seqP ?_ | refine q_blkP ?_ | refine q_lpP ?_ | ((first | refine q_ret ?_ | refine q_end ?_); (first | refine q_r1 ?_ | refine q_rc ?_ | refine q_r0 ?_); simp only [go_sem, simprocAttr, Nat.le_refl])
    (first | refine r_opN fun κ η => ?_ | refine r_opG rfl fun κ η => ?_ | refine d_opN (by kernel_rfl) fun κ η => ?_ | refine d_opG (by kernel_rfl) rfl fun κ η => ?_); simp only [go_sem, simprocAttr, Nat.le_refl]; refine ⟨_, hc0, ?_⟩; simp only [go_sem, simprocAttr, Nat.le_refl]; refine η _ ?_; clear η κ
    repeat' first | refine c_seq ?_ | refine c_block ?_ | refine c_reg' rfl fun K E hK hE => ?_ | refine c_draw' rfl (by kernel_rfl) fun K E hK hE => ?_ | ((first | refine r_opN fun κ η => ?_ | refine r_opG rfl fun κ η => ?_ | refine d_opN (by kernel_rfl) fun κ η => ?_ | refine d_opG (by kernel_rfl) rfl fun κ η => ?_); simp only [go_sem, simprocAttr, Nat.le_refl]; (repeat refine ⟨by (first | omega | assumption | exact ⟨_, rfl⟩ | exact ⟨_, rfl, rfl⟩), ?_⟩); refine η _ ?_; clear η κ) | (refine r_nil (hK _ ?_); clear hE hK E K) | refine q_seq ?_ | (refine d_nil (hK _ ?_); clear hE hK E K) | refine q_blk ?_ | refine c_skip ?_ | refine c_exit ?_ | refine c_ret ?_ | refine q_seqE ?_ | refine q_blkHit ?_ | refine q_blkMiss rfl ?_ | refine q_lpE ?_ | refine q_seqR ?_ | refine q_blkR ?_ | refine q_lpR ?_ | refine q_lpN ?_ | refine q_eN ?_ | refine q_eT ?_ | refine q_pre ?_ | refine q_seqP ?_ | refine q_blkP ?_ | refine q_lpP ?_ | ((first | refine q_ret ?_ | refine q_end ?_); (first | refine q_r1 ?_ | refine q_rc ?_ | refine q_r0 ?_); simp only [go_sem, simprocAttr, Nat.le_refl])
  rw [if_neg c2, if_neg c2]
  by_cases c3 : g.op = 3 ∨ g.op = 6 ∨ g.op = 7
  · rw [if_pos c3, if_pos c3]
    simp only [bL] at hc1
    refine ct_of (cls := _root_.id) tt_ok follows_ Tryd.func100 rfl (by decide) (Nat.le_of_ble_eq_true rfl) ?_
    rw [show Tryd.f100.ntmps = 5 from rfl, s0_nf]
    simp only [List.zipIdx_cons, List.zipIdx_nil, List.map_cons, List.map_nil, Nat.reduceAdd, bL]
    repeat' first | refine c_seq ?_ | refine c_block ?_ | refine c_reg' rfl fun K E hK hE => ?_ | refine c_draw' rfl (by kernel_rfl) fun K E hK hE => ?_ | ((first | refine r_opN fun κ η => ?_ | refine r_opG rfl fun κ η => ?_ | refine d_opN (by kernel_rfl) fun κ η => ?_ | refine d_opG (by kernel_rfl) rfl fun κ η => ?_); simp only [go_sem, simprocAttr, Nat.le_refl]; (repeat refine ⟨by (first | omega | assumption | exact ⟨_, rfl⟩ | exact ⟨_, rfl, rfl⟩), ?_⟩); refine η _ ?_; clear η κ) | (refine r_nil (hK _ ?_); clear hE hK E K) | refine q_seq ?_ | (refine d_nil (hK _ ?_); clear hE hK E K) | refine q_blk ?_ | refine c_skip ?_ | refine c_exit ?_ | refine c_ret ?_ | refine q_seqE ?_ | refine q_blkHit ?_ | refine q_blkMiss rfl ?_ | refine q_lpE ?_ | refine q_seqR ?_ | refine q_blkR ?_ | refine q_lpR ?_ | refine q_lpN ?_ | refine q_eN ?_ | refine q_eT ?_ | refine q_pre ?_ | refine q_seqP ?_ | refine q_blkP ?_ | refine q_lpP ?_ | ((first | refine q_ret ?_ | refine q_end ?_); (first | refine q_r1 ?_ | refine q_rc ?_ | refine q_r0 ?_); simp only [go_sem, simprocAttr, Nat.le_refl])
    (first | refine r_opN fun κ η => ?_ | refine r_opG rfl fun κ η => ?_ | refine d_opN (by kernel_rfl) fun κ η => ?_ | refine d_opG (by kernel_rfl) rfl fun κ η => ?_); simp only [go_sem, simprocAttr, Nat.le_refl]; refine ⟨_, hc1, ?_⟩; simp only [go_sem, simprocAttr, Nat.le_refl]; refine η _ ?_; clear η κ
    repeat' first | refine c_seq ?_ | refine c_block ?_ | refine c_reg' rfl fun K E hK hE => ?_ | refine c_draw' rfl (by kernel_rfl) fun K E hK hE => ?_ | ((first | refine r_opN fun κ η => ?_ | refine r_opG rfl fun κ η => ?_ | refine d_opN (by kernel_rfl) fun κ η => ?_ | refine d_opG (by kernel_rfl) rfl fun κ η => ?_); simp only [go_sem, simprocAttr, Nat.le_refl]; (repeat refine ⟨by (first | omega | assumption | exact ⟨_, rfl⟩ | exact ⟨_, rfl, rfl⟩), ?_⟩); refine η _ ?_; clear η κ) | (refine r_nil (hK _ ?_); clear hE hK E K) | refine q_seq ?_ | (refine d_nil (hK _ ?_); clear hE hK E K) | refine q_blk ?_ | refine c_skip ?_ | refine c_exit ?_ | refine c_ret ?_ | refine q_seqE ?_ | refine q_blkHit ?_ | refine q_blkMiss rfl ?_ | refine q_lpE ?_ | refine q_seqR ?_ | refine q_blkR ?_ | refine q_lpR ?_ | refine q_lpN ?_ | refine q_eN ?_ | refine q_eT ?_ | refine q_pre ?_ | refine q_seqP ?_ | refine q_blkP ?_ | refine q_lpP ?_ | ((first | refine q_ret ?_ | refine q_end ?_); (first | refine q_r1 ?_ | refine q_rc ?_ | refine q_r0 ?_); simp only [go_sem, simprocAttr, Nat.le_refl])
  rw [if_neg c3, if_neg c3, if_pos (by omega), if_pos (by omega)]
  exact isOdd_ct Hy ins hl
theorem ask_cd (g : Gt) (ins : List Bool) (hop : 0 ≤ g.op ∧ g.op ≤ 9) (hl : ins.length ≤ 1000000) {o : Nat → O} {R : List Nat} : Cd Tryd.prog Hy (askF g.op) [.t (bL ins)] o R [] (.t (.b (askV g ins))) := by
  intro o2 _
  have := Cm.of_ct (o := o2) (askF_ct Hy g ins hop hl)
  exact this.mono (by rintro rs o' ⟨rfl, rfl⟩; exact ⟨rfl, rfl⟩)
theorem rule41_cm {o : Nat → O} {q : Nat} {ins : List Bool} (ho : o 7202 = ⟨q, .cells 49 [.t (bL ins)]⟩) (r : Row) (hr : ins.length ≤ r.length ∧ r.length ≤ 1000000) : Cm Tryd.prog Hy 103 [.t (.s (mk r)), .ptr 7202 q 0] o fun rs o' => rs = [.t (.b (fitB r ins))] ∧ o = o' := by
  have hf := fits_ct Hy r ins hr.1 hr.2
  simp only [bL] at ho hf
  refine cm_of (cls := _root_.id) tt_ok follows_ Tryd.func103 rfl (by decide) (Nat.le_of_ble_eq_true rfl) ?_
  rw [show Tryd.f103.ntmps = 7 from rfl, s0_nf]
  simp only [List.zipIdx_cons, List.zipIdx_nil, List.map_cons, List.map_nil, Nat.reduceAdd]
  repeat' first | refine c_seq ?_ | refine c_block ?_ | refine c_reg' rfl fun K E hK hE => ?_ | refine c_draw' rfl (by kernel_rfl) fun K E hK hE => ?_ | ((first | refine r_opN fun κ η => ?_ | refine r_opG rfl fun κ η => ?_ | refine d_opN (by kernel_rfl) fun κ η => ?_ | refine d_opG (by kernel_rfl) rfl fun κ η => ?_); simp only [go_sem, simprocAttr, Nat.le_refl, ho]; (repeat refine ⟨by (first | omega | assumption | exact ⟨_, rfl⟩ | exact ⟨_, rfl, rfl⟩), ?_⟩); refine η _ ?_; clear η κ) | (refine r_nil (hK _ ?_); clear hE hK E K) | refine q_seq ?_ | (refine d_nil (hK _ ?_); clear hE hK E K) | refine q_blk ?_ | refine c_skip ?_ | refine c_exit ?_ | refine c_ret ?_ | refine q_seqE ?_ | refine q_blkHit ?_ | refine q_blkMiss rfl ?_ | refine q_lpE ?_ | refine q_seqR ?_ | refine q_blkR ?_ | refine q_lpR ?_ | refine q_lpN ?_ | refine q_eN ?_ | refine q_eT ?_ | refine q_pre ?_ | refine q_seqP ?_ | refine q_blkP ?_ | refine q_lpP ?_ | ((first | refine q_ret ?_ | refine q_end ?_); (first | refine q_r1 ?_ | refine q_rc ?_ | refine q_r0 ?_); simp only [go_sem, simprocAttr, Nat.le_refl, ho])
  (first | refine r_opN fun κ η => ?_ | refine r_opG rfl fun κ η => ?_ | refine d_opN (by kernel_rfl) fun κ η => ?_ | refine d_opG (by kernel_rfl) rfl fun κ η => ?_); simp only [go_sem, simprocAttr, Nat.le_refl]; refine ⟨_, hf, ?_⟩; simp only [go_sem, simprocAttr, Nat.le_refl]; refine η _ ?_; clear η κ
  repeat' first | refine c_seq ?_ | refine c_block ?_ | refine c_reg' rfl fun K E hK hE => ?_ | refine c_draw' rfl (by kernel_rfl) fun K E hK hE => ?_ | ((first | refine r_opN fun κ η => ?_ | refine r_opG rfl fun κ η => ?_ | refine d_opN (by kernel_rfl) fun κ η => ?_ | refine d_opG (by kernel_rfl) rfl fun κ η => ?_); simp only [go_sem, simprocAttr, Nat.le_refl]; (repeat refine ⟨by (first | omega | assumption | exact ⟨_, rfl⟩ | exact ⟨_, rfl, rfl⟩), ?_⟩); refine η _ ?_; clear η κ) | (refine r_nil (hK _ ?_); clear hE hK E K) | refine q_seq ?_ | (refine d_nil (hK _ ?_); clear hE hK E K) | refine q_blk ?_ | refine c_skip ?_ | refine c_exit ?_ | refine c_ret ?_ | refine q_seqE ?_ | refine q_blkHit ?_ | refine q_blkMiss rfl ?_ | refine q_lpE ?_ | refine q_seqR ?_ | refine q_blkR ?_ | refine q_lpR ?_ | refine q_lpN ?_ | refine q_eN ?_ | refine q_eT ?_ | refine q_pre ?_ | refine q_seqP ?_ | refine q_blkP ?_ | refine q_lpP ?_ | ((first | refine q_ret ?_ | refine q_end ?_); (first | refine q_r1 ?_ | refine q_rc ?_ | refine q_r0 ?_); simp only [go_sem, simprocAttr, Nat.le_refl])
def gC (g : Gt) : List A := [.t (.s g.name), .t (.i .i64 g.op), .t (sL g.ins), .t (rL g.rows), .t (.b g.off)]
theorem rule4_cd (g : Gt) (ins : List Bool) (hop : g.op = 10) (_hl : ins.length ≤ 1000000) (hrl : g.rows.length ≤ 1000000) (hr : ∀ r ∈ g.rows, ins.length ≤ r.length ∧ r.length ≤ 1000000) {o : Nat → O} {R : List Nat} {q : Nat} (ho : o 7101 = ⟨q, .cells 45 (gC g)⟩) (hR : 7101 ∈ R ∧ 7202 ∈ R) :
    Cd Tryd.prog Hy 102 [.t (bL ins), .ptr 7101 q 0] o R [(7202, ⟨(o 7202).gen + 1, .none⟩)] (.t (.b (askV g ins))) := by
  intro o2 h2
  rw [← h2 7101 hR.1] at ho
  rw [← h2 7202 hR.2]
  clear h2
  have ha : askV g ins = g.rows.any fun r => fitB r ins := by
    unfold askV
    rw [if_neg (by omega), if_neg (by omega), if_neg (by omega), if_neg (by omega)]
  rw [ha]
  clear ha hop
  obtain ⟨name, op, gi, rows, off⟩ := g
  simp only at hrl hr ⊢
  have hF : ∀ (o : Nat → O) (q : Nat), o 7202 = ⟨q, .cells 49 [.t (bL ins)]⟩ → Cm Tryd.prog Hy 92 [.t (rL rows), .fn 103 [] [.ptr 7202 q 0]] o fun rs o' => rs = [.t (.b (rows.any fun r => fitB r ins))] ∧ o = o' := fun o q h =>
    containsFuncS_cm Hy hrl fun r hm => rule41_cm Hy h r (hr r hm)
  simp only [gC, rL, sL] at ho hF
  refine Cm.settle (R := fun rs o' => rs = [.t (.b (rows.any fun r => fitB r ins))] ∧ o' = fun j => lookO ([] ++ [(7202, ⟨(o2 7202).gen + 1, .cells 49 [.t (bL ins)]⟩)]) j (o2 j)) ?_ (fun rs o' hr => ?_)
  · simp only [bL] at hF ⊢
    refine cm_of (cls := fun d => 7200 + d) tt_ok follows_ Tryd.func102 rfl (by decide) (Nat.le_of_ble_eq_true rfl) ?_
    rw [show Tryd.f102.ntmps = 8 from rfl, s0_nf]
    simp only [List.zipIdx_cons, List.zipIdx_nil, List.map_cons, List.map_nil, Nat.reduceAdd]
    repeat' first | refine c_seq ?_ | refine c_block ?_ | refine c_reg' rfl fun K E hK hE => ?_ | refine c_draw' rfl (by kernel_rfl) fun K E hK hE => ?_ | ((first | refine r_opN fun κ η => ?_ | refine r_opG rfl fun κ η => ?_ | refine d_opN (by kernel_rfl) fun κ η => ?_ | refine d_opG (by kernel_rfl) rfl fun κ η => ?_); simp only [go_sem, simprocAttr, Nat.le_refl, ho]; (repeat refine ⟨by (first | omega | assumption | exact ⟨_, rfl⟩ | exact ⟨_, rfl, rfl⟩), ?_⟩); refine η _ ?_; clear η κ) | (refine r_nil (hK _ ?_); clear hE hK E K) | refine q_seq ?_ | (refine d_nil (hK _ ?_); clear hE hK E K) | refine q_blk ?_ | refine c_skip ?_ | refine c_exit ?_ | refine c_ret ?_ | refine q_seqE ?_ | refine q_blkHit ?_ | refine q_blkMiss rfl ?_ | refine q_lpE ?_ | refine q_seqR ?_ | refine q_blkR ?_ | refine q_lpR ?_ | refine q_lpN ?_ | refine q_eN ?_ | refine q_eT ?_ | refine q_pre ?_ | refine q_seqP ?_ | refine q_blkP ?_ | refine q_lpP ?_ | ((first | refine q_ret ?_ | refine q_end ?_); (first | refine q_r1 ?_ | refine q_rc ?_ | refine q_r0 ?_); simp only [go_sem, simprocAttr, Nat.le_refl, ho])
    refine r_call fun κ η => ?_; simp only [go_sem, simprocAttr, Nat.le_refl]; refine ⟨_, hF _ _ rfl, ?_⟩; rintro _ _ ⟨rfl, rfl⟩; simp only [go_sem, simprocAttr, Nat.le_refl]; refine η _ ?_; clear η κ
    repeat' first | refine c_seq ?_ | refine c_block ?_ | refine c_reg' rfl fun K E hK hE => ?_ | refine c_draw' rfl (by kernel_rfl) fun K E hK hE => ?_ | ((first | refine r_opN fun κ η => ?_ | refine r_opG rfl fun κ η => ?_ | refine d_opN (by kernel_rfl) fun κ η => ?_ | refine d_opG (by kernel_rfl) rfl fun κ η => ?_); simp only [go_sem, simprocAttr, Nat.le_refl]; (repeat refine ⟨by (first | omega | assumption | exact ⟨_, rfl⟩ | exact ⟨_, rfl, rfl⟩), ?_⟩); refine η _ ?_; clear η κ) | (refine r_nil (hK _ ?_); clear hE hK E K) | refine q_seq ?_ | (refine d_nil (hK _ ?_); clear hE hK E K) | refine q_blk ?_ | refine c_skip ?_ | refine c_exit ?_ | refine c_ret ?_ | refine q_seqE ?_ | refine q_blkHit ?_ | refine q_blkMiss rfl ?_ | refine q_lpE ?_ | refine q_seqR ?_ | refine q_blkR ?_ | refine q_lpR ?_ | refine q_lpN ?_ | refine q_eN ?_ | refine q_eT ?_ | refine q_pre ?_ | refine q_seqP ?_ | refine q_blkP ?_ | refine q_lpP ?_ | ((first | refine q_ret ?_ | refine q_end ?_); (first | refine q_r1 ?_ | refine q_rc ?_ | refine q_r0 ?_); simp only [go_sem, simprocAttr, Nat.le_refl])
    rfl
  · obtain ⟨rfl, rfl⟩ := hr
    exact ⟨_, Stl.drop (Nat.le_refl _), rfl, lookO_dropL⟩
set_option maxHeartbeats 8000000 in
theorem ruleOf_cd (g : Gt) (hop : opB g.op = true) {o : Nat → O} {R : List Nat} (hR : 7101 ∈ R ∧ 7102 ∈ R ∧ 7103 ∈ R) : Cd Tryd.prog Hy 70 [.ag (gC g)] o R [(7102, ⟨(o 7102).gen + 1, .none⟩), (7103, ⟨(o 7103).gen + 1, .none⟩), (7101, ⟨(o 7101).gen + 1, .cells 45 (gC g)⟩)]
    (.ag [.fn (askF g.op) [] (if g.op = 10 then [.ptr 7101 ((o 7101).gen + 1) 0] else []), .fn (turnF g) [] []]) := by
  intro o2 h2
  rw [← h2 7101 hR.1, ← h2 7102 hR.2.1, ← h2 7103 hR.2.2]
  clear h2
  have hop := of_decide_eq_true hop
  obtain ⟨name, op, gi, rows, off⟩ := g
  have hn : op = 0 ∨ op = 1 ∨ op = 2 ∨ op = 3 ∨ op = 4 ∨ op = 5 ∨ op = 6 ∨ op = 7 ∨ op = 8 ∨ op = 9 ∨ op = 10 := by simp only at hop; omega
  clear hop hR
  refine Cm.near (own := [7102, 7103]) (c := 1) (up := [(7101, ⟨(o2 7101).gen + 1, .cells 45 (gC ⟨name, op, gi, rows, off⟩)⟩)]) ?_
  simp only [gC, sL, rL]
  have key : ∀ (n : Nat) (F : Nat → A) (ts : List (Nat × A)) (os : List (Nat × O)) (x : O), (∀ j, j ≠ 7101 → j ≠ 7102 → j ≠ 7103 → lookO os j (o2 j) = o2 j) → lookO os 7101 (o2 7101) = x → (lookO os 7102 (o2 7102)).gen ≤ (o2 7102).gen + 1 → (lookO os 7103 (o2 7103)).gen ≤ (o2 7103).gen + 1 → Nearly o2 [7102, 7103] 1 [(7101, x)] (nf n F o2 ts os).o := fun n F ts os x h0 h1 h2 h3 => ⟨fun j hj => by
      simp only [List.mem_cons, List.not_mem_nil, or_false, not_or] at hj
      rw [nf_oj]
      by_cases e : j = 7101
      · subst e; exact h1
      · rw [h0 j e hj.1 hj.2]
        simp only [lookO, e, if_false], fun j hj => by
      simp only [List.mem_cons, List.not_mem_nil, or_false] at hj
      rw [nf_oj]
      rcases hj with rfl | rfl
      · exact h2
      · exact h3⟩
  have ca : ∀ o : Int, o = 10 → off = true → turnF ⟨name, o, gi, rows, off⟩ = 96 := fun o h h2 => by rw [turnF, turnsB, h, h2]; rfl
  have cb : ∀ o : Int, o = 10 → off = false → turnF ⟨name, o, gi, rows, off⟩ = 95 := fun o h h2 => by rw [turnF, turnsB, h, h2]; rfl
  refine cm_of (cls := fun d => 7100 + d) tt_ok follows_ Tryd.func70 rfl (by decide) (Nat.le_of_ble_eq_true rfl) ?_
  rw [show Tryd.f70.ntmps = 41 from rfl, s0_nf]
  simp only [List.zipIdx_cons, List.zipIdx_nil, List.map_cons, List.map_nil, Nat.reduceAdd]
  rcases hn with rfl | rfl | rfl | rfl | rfl | rfl | rfl | rfl | rfl | rfl | rfl
  rotate_right
  · cases off with
    | true =>
      repeat' first | refine c_seq ?_ | refine c_block ?_ | refine c_reg' rfl fun K E hK hE => ?_ | refine c_draw' rfl (by kernel_rfl) fun K E hK hE => ?_ | ((first | refine r_opN fun κ η => ?_ | refine r_opG rfl fun κ η => ?_ | refine d_opN (by kernel_rfl) fun κ η => ?_ | refine d_opG (by kernel_rfl) rfl fun κ η => ?_); simp only [go_sem, simprocAttr, Nat.le_refl, Int.reduceEq]; (repeat refine ⟨by (first | omega | assumption | exact ⟨_, rfl⟩ | exact ⟨_, rfl, rfl⟩), ?_⟩); refine η _ ?_; clear η κ) | (refine r_nil (hK _ ?_); clear hE hK E K) | refine q_seq ?_ | refine c_cond true rfl (fun _ => ?_) (fun h => (by cases h)) | refine c_cond false rfl (fun h => (by cases h)) fun _ => ?_ | (refine d_nil (hK _ ?_); clear hE hK E K) | refine q_blk ?_ | refine c_skip ?_ | refine c_exit ?_ | refine c_ret ?_ | refine q_seqE ?_ | refine q_blkHit ?_ | refine q_blkMiss rfl ?_ | refine q_lpE ?_ | refine q_seqR ?_ | refine q_blkR ?_ | refine q_lpR ?_ | refine q_lpN ?_ | refine q_eN ?_ | refine q_eT ?_ | refine q_pre ?_ | refine q_seqP ?_ | refine q_blkP ?_ | refine q_lpP ?_ | ((first | refine q_ret ?_ | refine q_end ?_); (first | refine q_r1 ?_ | refine q_rc ?_ | refine q_r0 ?_); simp only [go_sem, simprocAttr, Nat.le_refl, Int.reduceEq])
      exact ⟨by rw [ca 10 rfl rfl]; rfl, key _ _ _ _ _ (fun j h1 h2 h3 => by simp only [lookO, h1, h2, h3, if_false]) rfl (Nat.le_refl _) (Nat.le_refl _)⟩
    | false =>
      repeat' first | refine c_seq ?_ | refine c_block ?_ | refine c_reg' rfl fun K E hK hE => ?_ | refine c_draw' rfl (by kernel_rfl) fun K E hK hE => ?_ | ((first | refine r_opN fun κ η => ?_ | refine r_opG rfl fun κ η => ?_ | refine d_opN (by kernel_rfl) fun κ η => ?_ | refine d_opG (by kernel_rfl) rfl fun κ η => ?_); simp only [go_sem, simprocAttr, Nat.le_refl, Int.reduceEq]; (repeat refine ⟨by (first | omega | assumption | exact ⟨_, rfl⟩ | exact ⟨_, rfl, rfl⟩), ?_⟩); refine η _ ?_; clear η κ) | (refine r_nil (hK _ ?_); clear hE hK E K) | refine q_seq ?_ | refine c_cond true rfl (fun _ => ?_) (fun h => (by cases h)) | refine c_cond false rfl (fun h => (by cases h)) fun _ => ?_ | (refine d_nil (hK _ ?_); clear hE hK E K) | refine q_blk ?_ | refine c_skip ?_ | refine c_exit ?_ | refine c_ret ?_ | refine q_seqE ?_ | refine q_blkHit ?_ | refine q_blkMiss rfl ?_ | refine q_lpE ?_ | refine q_seqR ?_ | refine q_blkR ?_ | refine q_lpR ?_ | refine q_lpN ?_ | refine q_eN ?_ | refine q_eT ?_ | refine q_pre ?_ | refine q_seqP ?_ | refine q_blkP ?_ | refine q_lpP ?_ | ((first | refine q_ret ?_ | refine q_end ?_); (first | refine q_r1 ?_ | refine q_rc ?_ | refine q_r0 ?_); simp only [go_sem, simprocAttr, Nat.le_refl, Int.reduceEq])
      exact ⟨by rw [cb 10 rfl rfl]; rfl, key _ _ _ _ _ (fun j h1 h2 h3 => by simp only [lookO, h1, h2, h3, if_false]) rfl (Nat.le_refl _) (Nat.le_refl _)⟩
  all_goals (
    repeat' first | refine c_seq ?_ | refine c_block ?_ | refine c_reg' rfl fun K E hK hE => ?_ | refine c_draw' rfl (by kernel_rfl) fun K E hK hE => ?_ | ((first | refine r_opN fun κ η => ?_ | refine r_opG rfl fun κ η => ?_ | refine d_opN (by kernel_rfl) fun κ η => ?_ | refine d_opG (by kernel_rfl) rfl fun κ η => ?_); simp only [go_sem, simprocAttr, Nat.le_refl, Int.reduceEq]; (repeat refine ⟨by (first | omega | assumption | exact ⟨_, rfl⟩ | exact ⟨_, rfl, rfl⟩), ?_⟩); refine η _ ?_; clear η κ) | (refine r_nil (hK _ ?_); clear hE hK E K) | refine q_seq ?_ | refine c_cond true rfl (fun _ => ?_) (fun h => (by cases h)) | refine c_cond false rfl (fun h => (by cases h)) fun _ => ?_ | (refine d_nil (hK _ ?_); clear hE hK E K) | refine q_blk ?_ | refine c_skip ?_ | refine c_exit ?_ | refine c_ret ?_ | refine q_seqE ?_ | refine q_blkHit ?_ | refine q_blkMiss rfl ?_ | refine q_lpE ?_ | refine q_seqR ?_ | refine q_blkR ?_ | refine q_lpR ?_ | refine q_lpN ?_ | refine q_eN ?_ | refine q_eT ?_ | refine q_pre ?_ | refine q_seqP ?_ | refine q_blkP ?_ | refine q_lpP ?_ | ((first | refine q_ret ?_ | refine q_end ?_); (first | refine q_r1 ?_ | refine q_rc ?_ | refine q_r0 ?_); simp only [go_sem, simprocAttr, Nat.le_refl, Int.reduceEq])
    exact ⟨rfl, key _ _ _ _ _ (fun j h1 h2 h3 => by simp only [lookO, h1, h2, h3, if_false]) rfl (Nat.le_refl _) (Nat.le_refl _)⟩)
end Go.Proofs.YtbhoeanfnbkenaaDoor
