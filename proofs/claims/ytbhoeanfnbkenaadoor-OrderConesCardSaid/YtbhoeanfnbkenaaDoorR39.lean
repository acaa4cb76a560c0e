import Derived.Test.YtbhoeanfnbkenaaDoorR32
import Derived.Test.YtbhoeanfnbkenaaDoorR18
import Derived.Test.YtbhoeanfnbkenaaDoorR22
import Derived.Test.YtbhoeanfnbkenaaDoorR24
namespace Go.Proofs.YtbhoeanfnbkenaaDoor
open Go.RowKit
set_option maxRecDepth 100000
set_option linter.unusedSimpArgs false
variable (Hy : World → Prop)
attribute [local irreducible] runM runD cwp seqQ blkQ lpQ retQ asQ bdQ bdY retP endR preD retD
def ta : ByteArray := ⟨#[97]⟩
def tz : ByteArray := ⟨#[122]⟩
def ty : ByteArray := ⟨#[121]⟩
def ex7 : Ci := ⟨[ta], [ty], [], [⟨tz, 3, [ty], [], false⟩, ⟨ty, 2, [ta], [], false⟩]⟩
def ex7d : Ci := ⟨[ta], [ty], [], [⟨tz, 3, [ty], [], false⟩, ⟨ty, 2, [tz], [], false⟩]⟩
theorem room_small {c : Ci} (h1 : c.ins.length ≤ 1000) (h2 : c.outs.length ≤ 1000) (h3 : c.las.length ≤ 1000) (h4 : c.gts.length ≤ 1000) : CRoom c := ⟨by omega, by omega, by omega, by omega⟩
theorem ex7_room : CRoom ex7 := room_small (by decide) (by decide) (by decide) (by decide)
theorem ex7d_room : CRoom ex7d := room_small (by decide) (by decide) (by decide) (by decide)
theorem ex7_ok : GOk ex7.gts ∧ LOk ex7.las := ⟨fun g hg => by
  simp only [ex7, List.mem_cons, List.not_mem_nil, or_false] at hg
  rcases hg with rfl | rfl <;> simp [inR], fun g hg => by cases hg⟩
theorem ex7d_ok : GOk ex7d.gts ∧ LOk ex7d.las := ⟨fun g hg => by
  simp only [ex7d, List.mem_cons, List.not_mem_nil, or_false] at hg
  rcases hg with rfl | rfl <;> simp [inR], fun g hg => by cases hg⟩
set_option maxHeartbeats 8000000 in
theorem works07_ct : Ct Tryd.prog Hy 12 [] [.b true] := by
  have s1 := fun (o : Nat → O) => Cm.of_ct (o := o) (sort_ct Hy ex7 ex7_room ex7_ok.1 ex7_ok.2)
  have k1 := fun (o : Nat → O) => Cm.of_ct (o := o) (ocheck_ct Hy ex7d ex7d_room ex7d_ok.1 ex7d_ok.2)
  have k2 := fun (o : Nat → O) => Cm.of_ct (o := o) (ocheck_ct Hy ex7 ex7_room ex7_ok.1 ex7_ok.2)
  have c1 := fun (o : Nat → O) => Cm.of_ct (o := o) (cone_ct Hy ex7 ex7_room ex7_ok.1 ex7_ok.2 [ty] (by decide) (by decide))
  have t1 := fun (o : Nat → O) => Cm.of_ct (o := o) (otrim_ct Hy ex7 ex7_room ex7_ok.1 ex7_ok.2)
  have l1 := fun (o : Nat → O) => Cm.of_ct (o := o) (levels_ct Hy ex7 ex7_room ex7_ok.1 ex7_ok.2)
  have i1 := rInts_ct Hy [1, 0] [1, 0] (by decide) (by decide)
  have x1 := rTexts_ct Hy [ta, ty] [ta, ty] (by decide) (by decide)
  rw [show sortC ex7 = ([1, 0], []) by decide +kernel] at s1
  rw [show checkO ex7d = (7, tz) by decide +kernel] at k1
  rw [show checkO ex7 = (0, noneT) by decide +kernel] at k2
  rw [show coneC ex7 [ty] = [ta, ty] by decide +kernel] at c1
  rw [show trimC ex7 = ⟨[ta], [ty], [], [⟨ty, 2, [ta], [], false⟩]⟩ by decide +kernel] at t1
  rw [show levelsR ex7 = [1, 0] by decide +kernel] at l1
  rw [decide_eq_true rfl] at i1 x1
  simp only [ex7, ex7d, ta, ty, tz, noneT, cE, sR, lsR, gsR, rR, iR, castL, List.map_cons, List.map_nil, Int.ofNat_eq_natCast, Int.cast_ofNat_Int, Int.natCast_one, Int.natCast_zero] at s1 k1 k2 c1 t1 l1 i1 x1
  refine ct_of (cls := _root_.id) tt_ok follows_ Tryd.func12 rfl (by decide) (Nat.le_of_ble_eq_true rfl) ?_
  rw [show Tryd.f12.ntmps = 93 from rfl, s0_nf]
  simp only [List.zipIdx_cons, List.zipIdx_nil, List.map_cons, List.map_nil, Nat.reduceAdd]
  repeat' first | refine c_seq ?_ | refine c_reg' rfl fun K E hK hE => ?_ | (refine r_opN fun κ η => ?_; simp only [go_sem, simprocAttr, Nat.le_refl]; refine η _ ?_; clear η κ) | (refine r_nil (hK _ ?_); clear hE hK E K) | refine q_seq ?_
  refine r_callF fun κ η => ?_; simp only [go_sem, simprocAttr, Nat.le_refl]; refine ⟨_, (s1 _), ?_⟩; rintro _ _ ⟨rfl, rfl⟩; simp only [go_sem, simprocAttr, Nat.le_refl]; refine η _ ?_; clear η κ
  repeat' first | refine c_seq ?_ | refine c_reg' rfl fun K E hK hE => ?_ | (refine r_opN fun κ η => ?_; simp only [go_sem, simprocAttr, Nat.le_refl]; (repeat refine ⟨by omega, ?_⟩); refine η _ ?_; clear η κ) | (refine r_nil (hK _ ?_); clear hE hK E K) | refine q_seq ?_
  refine r_callF fun κ η => ?_; simp only [go_sem, simprocAttr, Nat.le_refl]; refine ⟨_, (k1 _), ?_⟩; rintro _ _ ⟨rfl, rfl⟩; simp only [go_sem, simprocAttr, Nat.le_refl]; refine η _ ?_; clear η κ
  repeat' first | refine c_seq ?_ | refine c_reg' rfl fun K E hK hE => ?_ | (refine r_opN fun κ η => ?_; simp only [go_sem, simprocAttr, Nat.le_refl]; refine η _ ?_; clear η κ) | (refine r_nil (hK _ ?_); clear hE hK E K) | refine q_seq ?_
  refine r_callF fun κ η => ?_; simp only [go_sem, simprocAttr, Nat.le_refl]; refine ⟨_, (k2 _), ?_⟩; rintro _ _ ⟨rfl, rfl⟩; simp only [go_sem, simprocAttr, Nat.le_refl]; refine η _ ?_; clear η κ
  repeat' first | refine c_seq ?_ | refine c_reg' rfl fun K E hK hE => ?_ | (refine r_opN fun κ η => ?_; simp only [go_sem, simprocAttr, Nat.le_refl]; refine η _ ?_; clear η κ) | (refine r_nil (hK _ ?_); clear hE hK E K) | refine q_seq ?_
  refine r_callF fun κ η => ?_; simp only [go_sem, simprocAttr, Nat.le_refl]; refine ⟨_, (c1 _), ?_⟩; rintro _ _ ⟨rfl, rfl⟩; simp only [go_sem, simprocAttr, Nat.le_refl]; refine η _ ?_; clear η κ
  repeat' first | refine c_seq ?_ | refine c_reg' rfl fun K E hK hE => ?_ | (refine r_opN fun κ η => ?_; simp only [go_sem, simprocAttr, Nat.le_refl]; refine η _ ?_; clear η κ) | (refine r_nil (hK _ ?_); clear hE hK E K) | refine q_seq ?_
  refine r_callF fun κ η => ?_; simp only [go_sem, simprocAttr, Nat.le_refl]; refine ⟨_, (t1 _), ?_⟩; rintro _ _ ⟨rfl, rfl⟩; simp only [go_sem, simprocAttr, Nat.le_refl]; refine η _ ?_; clear η κ
  repeat' first | refine c_seq ?_ | refine c_reg' rfl fun K E hK hE => ?_ | (refine r_opN fun κ η => ?_; simp only [go_sem, simprocAttr, Nat.le_refl]; refine η _ ?_; clear η κ) | (refine r_nil (hK _ ?_); clear hE hK E K) | refine q_seq ?_
  refine r_opN fun κ η => ?_; simp only [go_sem, simprocAttr, Nat.le_refl]; refine ⟨_, i1, ?_⟩; simp only [go_sem, simprocAttr, Nat.le_refl]; refine η _ ?_; clear η κ
  repeat' ((first | refine r_opN fun κ η => ?_ | refine r_opG rfl fun κ η => ?_); simp only [go_sem, simprocAttr, Nat.le_refl, eq_self, decide_true, List.length_nil, Int.natCast_zero]; refine η _ ?_; clear η κ)
  refine r_callF fun κ η => ?_; simp only [go_sem, simprocAttr, Nat.le_refl]; refine ⟨_, (l1 _), ?_⟩; rintro _ _ ⟨rfl, rfl⟩; simp only [go_sem, simprocAttr, Nat.le_refl]; refine η _ ?_; clear η κ
  repeat' (refine r_opG rfl fun κ η => ?_; simp only [go_sem, simprocAttr, Nat.le_refl, eq_self, decide_true]; refine η _ ?_; clear η κ)
  refine r_opG rfl fun κ η => ?_; simp only [go_sem, simprocAttr, Nat.le_refl]; refine ⟨_, i1, ?_⟩; simp only [go_sem, simprocAttr, Nat.le_refl]; refine η _ ?_; clear η κ
  repeat' ((first | refine r_opN fun κ η => ?_ | refine r_opG rfl fun κ η => ?_); simp only [go_sem, simprocAttr, Nat.le_refl, eq_self, decide_true]; refine η _ ?_; clear η κ)
  refine r_opG rfl fun κ η => ?_; simp only [go_sem, simprocAttr, Nat.le_refl]; refine ⟨_, x1, ?_⟩; simp only [go_sem, simprocAttr, Nat.le_refl]; refine η _ ?_; clear η κ
  repeat' first | ((first | refine r_opN fun κ η => ?_ | refine r_opG rfl fun κ η => ?_); simp only [go_sem, simprocAttr, Nat.le_refl, eq_self, decide_true, List.length_cons, List.length_nil, Nat.zero_add, Int.natCast_one]; (repeat refine ⟨by omega, ?_⟩); refine η _ ?_; clear η κ) | (refine r_nil (hK _ ?_); clear hE hK E K) | refine q_seq ?_ | refine c_ret ?_ | (refine q_ret ?_; refine q_r1 ?_; simp only [go_sem, simprocAttr, Nat.le_refl, eq_self, decide_true, List.length_cons, List.length_nil, Nat.zero_add, Int.natCast_one])
end Go.Proofs.YtbhoeanfnbkenaaDoor
