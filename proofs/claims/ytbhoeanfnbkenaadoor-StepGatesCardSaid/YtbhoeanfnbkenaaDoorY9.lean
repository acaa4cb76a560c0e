import Derived.Test.YtbhoeanfnbkenaaDoorY8
namespace Go.Proofs.YtbhoeanfnbkenaaDoor
open Go.RowKit Go.WideMaps
set_option maxRecDepth 100000
set_option linter.unusedSimpArgs false
variable (Hy : World → Prop)
attribute [local irreducible] runM runD cwp seqQ blkQ lpQ retQ asQ bdQ bdY retP endR preD retD
def tq : ByteArray := ⟨#[113]⟩
def tb_ : ByteArray := ⟨#[98]⟩
def ex8 : Ci := ⟨[], [tq], [⟨tq, tz, 0⟩], [⟨tz, 3, [tq], [], false⟩]⟩
def gt8 : Gt := ⟨noneT, 10, [ta, tb_], [[49, 45]], true⟩
theorem ex8_room : CRoom ex8 := room_small (by decide) (by decide) (by decide) (by decide)
theorem ex8_ok : GOk ex8.gts ∧ LOk ex8.las := ⟨fun g hg => by
  simp only [ex8, List.mem_cons, List.not_mem_nil, or_false] at hg
  subst hg
  simp [inR], fun x hx => by
  simp only [ex8, List.mem_cons, List.not_mem_nil, or_false] at hx
  subst hx
  simp [inR]⟩
set_option maxHeartbeats 16000000 in
theorem works08_ct : Ct Tryd.prog Hy 33 [] [.b true] := by
  have s1 := fun (o : Nat → O) => Cm.of_ct (o := o) (start_ct Hy ex8 [] ex8_room ex8_ok.1 ex8_ok.2)
  have r1 := fun (o : Nat → O) => Cm.of_ct (o := o) (srun_ct Hy ex8 [false] [[], [], []] ex8_room ex8_ok.1 ex8_ok.2)
  have g1 := fun (o : Nat → O) => Cm.of_ct (o := o) (stepGate_ct Hy gt8 [true, false] (by simp [gt8, inR]) (by decide) (by decide) (by decide))
  have v1 := fun (o : Nat → O) => Cm.of_ct (o := o) (svalues_ct Hy ex8 [false] [] ex8_room ex8_ok.1 ex8_ok.2)
  have p1 := fun (o : Nat → O) => Cm.of_ct (o := o) (sstep_ct Hy ex8 [] [] ex8_room ex8_ok.1 ex8_ok.2)
  have a1 := fun (o : Nat → O) => Cm.of_ct (o := o) (allowed_ct Hy ex8 [false] ex8_room ex8_ok.1 ex8_ok.2)
  have a2 := fun (o : Nat → O) => Cm.of_ct (o := o) (allowed_ct Hy ex8 [true] ex8_room ex8_ok.1 ex8_ok.2)
  have e1 := fun (o : Nat → O) => Cm.of_ct (o := o) (rrows_ct Hy [[false], [true], [false]] [[false], [true], [false]] (by decide) (by decide) (by decide) (by decide))
  have e2 := fun (o : Nat → O) => Cm.of_ct (o := o) (rbools_ct Hy [false, true] [false, true] (by decide) (by decide))
  rw [show startC ex8 [] = ([false], 0) by decide +kernel] at s1
  rw [show runC ex8 [false] [[], [], []] = ([[false], [true], [false]], [true], 0) by decide +kernel] at r1
  rw [show okG gt8 [true, false] = true by decide +kernel, show gateV gt8 [true, false] = false by decide +kernel] at g1
  rw [show valuesC ex8 [false] [] = ([false, true], 0) by decide +kernel] at v1
  rw [show stepC ex8 [] [] = ([], [], 11) by decide +kernel] at p1
  rw [show allowedB ex8 [false] = true by decide +kernel] at a1
  rw [show allowedB ex8 [true] = false by decide +kernel] at a2
  rw [decide_eq_true rfl] at e1 e2
  have hs1 : mk [49, 45] = ⟨#[49, 45]⟩ := rfl
  simp only [ex8, gt8, ta, tb_, tq, tz, noneT, cE, gE, sL, rL, bL, hs1, sR, lsR, gsR, rR, bl, bb, List.map_cons, List.map_nil, Bool.true_and, if_true] at s1 r1 g1 v1 p1 a1 a2 e1 e2
  refine ct_of (cls := _root_.id) tt_ok follows_ Tryd.func33 rfl (by decide) (Nat.le_of_ble_eq_true rfl) ?_
  rw [show Tryd.f33.ntmps = 110 from rfl, s0_nf]
  simp only [List.zipIdx_cons, List.zipIdx_nil, List.map_cons, List.map_nil, Nat.reduceAdd]
  repeat' first | refine c_seq ?_ | refine c_reg' rfl fun K E hK hE => ?_ | (refine r_opN fun κ η => ?_; simp only [go_sem, simprocAttr, Nat.le_refl]; refine η _ ?_; clear η κ) | (refine r_nil (hK _ ?_); clear hE hK E K) | refine q_seq ?_
  refine r_callF fun κ η => ?_; simp only [go_sem, simprocAttr, Nat.le_refl]; refine ⟨_, (s1 _), ?_⟩; rintro _ _ ⟨rfl, rfl⟩; simp only [go_sem, simprocAttr, Nat.le_refl]; refine η _ ?_; clear η κ
  repeat' first | refine c_seq ?_ | refine c_reg' rfl fun K E hK hE => ?_ | (refine r_opN fun κ η => ?_; simp only [go_sem, simprocAttr, Nat.le_refl]; refine η _ ?_; clear η κ) | (refine r_nil (hK _ ?_); clear hE hK E K) | refine q_seq ?_
  refine r_callF fun κ η => ?_; simp only [go_sem, simprocAttr, Nat.le_refl]; refine ⟨_, (r1 _), ?_⟩; rintro _ _ ⟨rfl, rfl⟩; simp only [go_sem, simprocAttr, Nat.le_refl]; refine η _ ?_; clear η κ
  repeat' first | refine c_seq ?_ | refine c_reg' rfl fun K E hK hE => ?_ | (refine r_opN fun κ η => ?_; simp only [go_sem, simprocAttr, Nat.le_refl]; refine η _ ?_; clear η κ) | (refine r_nil (hK _ ?_); clear hE hK E K) | refine q_seq ?_
  refine r_callF fun κ η => ?_; simp only [go_sem, simprocAttr, Nat.le_refl]; refine ⟨_, (g1 _), ?_⟩; rintro _ _ ⟨rfl, rfl⟩; simp only [go_sem, simprocAttr, Nat.le_refl]; refine η _ ?_; clear η κ
  repeat' first | refine c_seq ?_ | refine c_reg' rfl fun K E hK hE => ?_ | (refine r_opN fun κ η => ?_; simp only [go_sem, simprocAttr, Nat.le_refl]; refine η _ ?_; clear η κ) | (refine r_nil (hK _ ?_); clear hE hK E K) | refine q_seq ?_
  refine r_callF fun κ η => ?_; simp only [go_sem, simprocAttr, Nat.le_refl]; refine ⟨_, (v1 _), ?_⟩; rintro _ _ ⟨rfl, rfl⟩; simp only [go_sem, simprocAttr, Nat.le_refl]; refine η _ ?_; clear η κ
  repeat' first | refine c_seq ?_ | refine c_reg' rfl fun K E hK hE => ?_ | (refine r_opN fun κ η => ?_; simp only [go_sem, simprocAttr, Nat.le_refl]; refine η _ ?_; clear η κ) | (refine r_nil (hK _ ?_); clear hE hK E K) | refine q_seq ?_
  refine r_callF fun κ η => ?_; simp only [go_sem, simprocAttr, Nat.le_refl]; refine ⟨_, (p1 _), ?_⟩; rintro _ _ ⟨rfl, rfl⟩; simp only [go_sem, simprocAttr, Nat.le_refl]; refine η _ ?_; clear η κ
  repeat' first | refine c_seq ?_ | refine c_reg' rfl fun K E hK hE => ?_ | ((first | refine r_opN fun κ η => ?_ | refine r_opG rfl fun κ η => ?_); simp only [go_sem, simprocAttr, Nat.le_refl, eq_self, decide_true]; refine η _ ?_; clear η κ) | (refine r_nil (hK _ ?_); clear hE hK E K) | refine q_seq ?_
  refine r_callF fun κ η => ?_; simp only [go_sem, simprocAttr, Nat.le_refl]; refine ⟨_, (e1 _), ?_⟩; rintro _ _ ⟨rfl, rfl⟩; simp only [go_sem, simprocAttr, Nat.le_refl]; refine η _ ?_; clear η κ
  repeat' ((first | refine r_opN fun κ η => ?_ | refine r_opG rfl fun κ η => ?_); simp only [go_sem, simprocAttr, Nat.le_refl, eq_self, decide_true, List.length_cons, List.length_nil, Nat.zero_add, Int.natCast_one, List.getElem?_cons_zero]; refine η _ ?_; clear η κ)
  refine r_callF fun κ η => ?_; simp only [go_sem, simprocAttr, Nat.le_refl]; refine ⟨_, (e2 _), ?_⟩; rintro _ _ ⟨rfl, rfl⟩; simp only [go_sem, simprocAttr, Nat.le_refl]; refine η _ ?_; clear η κ
  repeat' ((first | refine r_opN fun κ η => ?_ | refine r_opG rfl fun κ η => ?_); simp only [go_sem, simprocAttr, Nat.le_refl, eq_self, decide_true]; refine η _ ?_; clear η κ)
  refine r_callF fun κ η => ?_; simp only [go_sem, simprocAttr, Nat.le_refl]; refine ⟨_, (a1 _), ?_⟩; rintro _ _ ⟨rfl, rfl⟩; simp only [go_sem, simprocAttr, Nat.le_refl]; refine η _ ?_; clear η κ
  repeat' ((first | refine r_opN fun κ η => ?_ | refine r_opG rfl fun κ η => ?_); simp only [go_sem, simprocAttr, Nat.le_refl, eq_self, decide_true]; refine η _ ?_; clear η κ)
  refine r_callF fun κ η => ?_; simp only [go_sem, simprocAttr, Nat.le_refl]; refine ⟨_, (a2 _), ?_⟩; rintro _ _ ⟨rfl, rfl⟩; simp only [go_sem, simprocAttr, Nat.le_refl]; refine η _ ?_; clear η κ
  repeat' first | ((first | refine r_opN fun κ η => ?_ | refine r_opG rfl fun κ η => ?_); simp only [go_sem, simprocAttr, Nat.le_refl, eq_self, decide_true]; refine η _ ?_; clear η κ) | (refine r_nil (hK _ ?_); clear hE hK E K) | refine q_seq ?_ | refine c_ret ?_ | (refine q_ret ?_; refine q_r1 ?_; simp only [go_sem, simprocAttr, Nat.le_refl, eq_self, decide_true])
end Go.Proofs.YtbhoeanfnbkenaaDoor
