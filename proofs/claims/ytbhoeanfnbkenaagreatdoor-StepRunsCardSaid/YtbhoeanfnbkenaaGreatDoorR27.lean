import Derived.Test.YtbhoeanfnbkenaaGreatDoorR25
import Derived.Test.YtbhoeanfnbkenaaGreatDoorR22
import Derived.Test.YtbhoeanfnbkenaaGreatDoorR18
namespace Go.Proofs.YtbhoeanfnbkenaaGreatDoor
open Go.RowKit Go.WideMaps
set_option maxRecDepth 100000
set_option linter.unusedSimpArgs false
variable (Hy : World → Prop)
attribute [local irreducible] zU zY cwp z1 z6 lpQ z8 asQ bdQ bdY zab zac zad zaa
set_option maxHeartbeats 4000000 in
theorem zmu (c : Ci) (hr : CRoom c) (hz : CSz c) : Ct Tryz.prog Hy 42 [.ag (cE c)] [.i .i64 (zaw c).1, .s (zaw c).2] := by
 have hck := fun (o : Nat → O) => Cm.of_ct (o := o) (zgg Hy c hr hz)
 have hso := fun (o : Nat → O) => Cm.of_ct (o := o) (zhQ Hy c hr hz)
 by_cases h0 : (zai c).1 = 0
 ·have h0' := eq_true h0
  have hs : zbD c = ((zZ c.gts).1, za0 c.gts) := if_pos h0
  rw [hs] at hso
  have hce : zaw c = match za0 c.gts with
   | [] => (0, zba)
   | x :: _ => (7, x) := if_pos h0
  rw [hce]
  have hnl := zd8 c.gts c.gts.length
  rw [zdx] at hnl
  have hn2 := (zdv h0).n200
  generalize za0 c.gts = nv at *
  obtain ⟨ins, outs, las, gts⟩ := c
  simp only [cE] at hck hso ⊢
  cases nv with
  | nil =>
   refine zI (cls := _root_.id) zB zD Tryz.func42 rfl (by decide) (Nat.le_of_ble_eq_true rfl) ?_
   rw [show Tryz.f42.ntmps = 28 from rfl, zC]
   simp only [List.zipIdx_cons, List.zipIdx_nil, List.map_cons, List.map_nil, Nat.reduceAdd, cE]
   repeat' first | apply zg | refine zf rfl fun K E hK hE => ?_ | (refine za fun κ η => ?_; simp only [go_sem, simprocAttr]; refine η _ ?_; clear η κ) | (refine zd (hK _ ?_); clear hE hK E K) | apply zb
   refine zaI fun κ η => ?_; simp only [go_sem, simprocAttr]; refine ⟨_, (hck _), ?_⟩; rintro _ _ ⟨rfl, rfl⟩; simp only [go_sem, simprocAttr]; refine η _ ?_; clear η κ
   repeat' first | apply zg | refine zf rfl fun K E hK hE => ?_ | (refine za fun κ η => ?_; simp only [go_sem, simprocAttr, h0']; refine η _ ?_; clear η κ) | (refine zd (hK _ ?_); clear hE hK E K) | apply zb | refine zh false rfl (fun h => (by cases h)) fun _ => ?_ | apply zi
   refine zaI fun κ η => ?_; simp only [go_sem, simprocAttr]; refine ⟨_, (hso _), ?_⟩; rintro _ _ ⟨rfl, rfl⟩; simp only [go_sem, simprocAttr]; refine η _ ?_; clear η κ
   repeat' first | apply zg | refine zf rfl fun K E hK hE => ?_ | (refine za fun κ η => ?_; simp only [go_sem, simprocAttr, sR, List.map_nil, List.length_nil]; refine η _ ?_; clear η κ) | (refine zd (hK _ ?_); clear hE hK E K) | apply zb | refine zh false rfl (fun h => (by cases h)) fun _ => ?_ | apply zi | apply zk | (apply zm; apply zn; simp only [go_sem, simprocAttr, sR, List.map_nil, List.length_nil])
   rfl
  | cons x l =>
   have hx : (sR (x :: l))[0]? = some [.s x] := rfl
   have hp : ((0 : Int) < (x :: l).length) = True := eq_true (by rw [List.length_cons]; omega)
   generalize hsr : x :: l = nv at *
   refine zI (cls := _root_.id) zB zD Tryz.func42 rfl (by decide) (Nat.le_of_ble_eq_true rfl) ?_
   rw [show Tryz.f42.ntmps = 28 from rfl, zC]
   simp only [List.zipIdx_cons, List.zipIdx_nil, List.map_cons, List.map_nil, Nat.reduceAdd, cE]
   repeat' first | apply zg | refine zf rfl fun K E hK hE => ?_ | (refine za fun κ η => ?_; simp only [go_sem, simprocAttr]; refine η _ ?_; clear η κ) | (refine zd (hK _ ?_); clear hE hK E K) | apply zb
   refine zaI fun κ η => ?_; simp only [go_sem, simprocAttr]; refine ⟨_, (hck _), ?_⟩; rintro _ _ ⟨rfl, rfl⟩; simp only [go_sem, simprocAttr]; refine η _ ?_; clear η κ
   repeat' first | apply zg | refine zf rfl fun K E hK hE => ?_ | (refine za fun κ η => ?_; simp only [go_sem, simprocAttr, h0']; refine η _ ?_; clear η κ) | (refine zd (hK _ ?_); clear hE hK E K) | apply zb | refine zh false rfl (fun h => (by cases h)) fun _ => ?_ | apply zi
   refine zaI fun κ η => ?_; simp only [go_sem, simprocAttr]; refine ⟨_, (hso _), ?_⟩; rintro _ _ ⟨rfl, rfl⟩; simp only [go_sem, simprocAttr]; refine η _ ?_; clear η κ
   repeat' first | apply zg | refine zf rfl fun K E hK hE => ?_ | refine zG rfl (by kernel_rfl) fun K E hK hE => ?_ | ((first | refine za fun κ η => ?_ | refine zr (by kernel_rfl) fun κ η => ?_); simp only [go_sem, simprocAttr, hp, hx]; refine η _ ?_; clear η κ) | (refine zd (hK _ ?_); clear hE hK E K) | apply zb | refine zh true rfl (fun _ => ?_) (fun h => (by cases h)) | (refine zH (hK _ ?_); clear hE hK E K) | apply zk | apply zy | (apply zm; apply zn; simp only [go_sem, simprocAttr, hp, hx])
   rw [← hsr]
 ·have h0' := eq_false h0
  have hce : zaw c = zai c := if_neg h0
  rw [hce]
  obtain ⟨ins, outs, las, gts⟩ := c
  simp only [cE] at hck ⊢
  refine zI (cls := _root_.id) zB zD Tryz.func42 rfl (by decide) (Nat.le_of_ble_eq_true rfl) ?_
  rw [show Tryz.f42.ntmps = 28 from rfl, zC]
  simp only [List.zipIdx_cons, List.zipIdx_nil, List.map_cons, List.map_nil, Nat.reduceAdd, cE]
  repeat' first | apply zg | refine zf rfl fun K E hK hE => ?_ | (refine za fun κ η => ?_; simp only [go_sem, simprocAttr]; refine η _ ?_; clear η κ) | (refine zd (hK _ ?_); clear hE hK E K) | apply zb
  refine zaI fun κ η => ?_; simp only [go_sem, simprocAttr]; refine ⟨_, (hck _), ?_⟩; rintro _ _ ⟨rfl, rfl⟩; simp only [go_sem, simprocAttr]; refine η _ ?_; clear η κ
  repeat' first | apply zg | refine zf rfl fun K E hK hE => ?_ | (refine za fun κ η => ?_; simp only [go_sem, simprocAttr, h0']; refine η _ ?_; clear η κ) | (refine zd (hK _ ?_); clear hE hK E K) | apply zb | refine zh true rfl (fun _ => ?_) (fun h => (by cases h)) | apply zk | apply zy | (apply zm; apply zn; simp only [go_sem, simprocAttr, h0'])
end Go.Proofs.YtbhoeanfnbkenaaGreatDoor
namespace Go.Proofs.YtbhoeanfnbkenaaGreatDoor
open Go.RowKit Go.WideMaps
set_option maxRecDepth 100000
set_option linter.unusedSimpArgs false
variable (Hy : World → Prop)
attribute [local irreducible] zU zY cwp z1 z6 lpQ z8 asQ bdQ bdY zab zac zad zaa
end Go.Proofs.YtbhoeanfnbkenaaGreatDoor
