import Derived.Test.YtbhoeanfnbkenaaGreatDoorY7
import Derived.Test.YtbhoeanfnbkenaaGreatDoorR39
namespace Go.Proofs.YtbhoeanfnbkenaaGreatDoor
open Go.RowKit Go.WideMaps
set_option maxRecDepth 100000
set_option linter.unusedSimpArgs false
variable (Hy : World → Prop)
attribute [local irreducible] zW zY cwp z1 z7 lpQ z8 asQ bdQ bdY zab zac zad zaa
set_option maxHeartbeats 2000000 in
theorem zd9 (a b : List Bool) (ha : a.length ≤ 140737488355328) (hb : b.length ≤ 140737488355328) : Ct Tryz.prog Hy 15 [.sl (bl a), .sl (bl b)] [.b (decide (a = b))] := by
 obtain ⟨R, hR⟩ : ∃ R, R = decide (a = b) := ⟨_, rfl⟩
 rw [← hR]
 by_cases hl : a.length = b.length
 rotate_left
 ·have hl' : ((a.length : Int) = b.length) = False := eq_false (by omega)
  obtain rfl : R = false := by
   rw [hR, decide_eq_false]
   rintro rfl
   exact hl rfl
  refine zV (cls := _root_.id) zF zH Tryz.func15 rfl (by decide) (Nat.le_of_ble_eq_true rfl) ?_
  rw [show Tryz.f15.ntmps = 26 from rfl, zG]
  simp only [List.zipIdx_cons, List.zipIdx_nil, List.map_cons, List.map_nil, Nat.reduceAdd]
  repeat' first | apply zg | refine zf rfl fun K E hK hE => ?_ | (refine za fun κ η => ?_; simp only [go_sem, simprocAttr, hl']; refine η _ ?_; clear η κ) | (refine zd (hK _ ?_); clear hE hK E K) | apply zb | refine zh true rfl (fun _ => ?_) (fun h => (by cases h)) | apply zm | apply zx | (apply zn; apply zo; simp only [go_sem, simprocAttr, hl'])
 have hl' : ((a.length : Int) = b.length) = True := eq_true (by omega)
 refine zV (cls := _root_.id) zF zH Tryz.func15 rfl (by decide) (Nat.le_of_ble_eq_true rfl) ?_
 rw [show Tryz.f15.ntmps = 26 from rfl, zG]
 simp only [List.zipIdx_cons, List.zipIdx_nil, List.map_cons, List.map_nil, Nat.reduceAdd]
 repeat' first | apply zg | apply zi | refine zf rfl fun K E hK hE => ?_ | (refine za fun κ η => ?_; simp only [go_sem, simprocAttr, hl']; refine η _ ?_; clear η κ) | (refine zd (hK _ ?_); clear hE hK E K) | apply zb | refine zh false rfl (fun h => (by cases h)) fun _ => ?_ | apply zj
 refine zX (fun m s' => ∃ k : Nat, m = a.length - k ∧ k ≤ a.length ∧ (∀ (j : Nat), j < k → a[j]? = b[j]?) ∧ ∃ F G0, s' = nf 26 F G0 [(0, .t (.sl (bl a))), (1, .t (.sl (bl b))), (5, .t (.i .i64 k))] []) a.length ?_ ?_
 ·exact ⟨0, by omega, by omega, fun j hj => absurd hj (Nat.not_lt_zero j), _, _, zy rfl ⟨rfl, rfl, rfl, trivial⟩ trivial⟩
 rintro m s' ⟨k, rfl, hk, hno, F, G0, rfl⟩
 by_cases hd : k < a.length
 ·have hd' : ((k : Int) < a.length) = True := eq_true (by omega)
  obtain ⟨x, hx⟩ : ∃ x, a[k]? = some x := ⟨_, List.getElem?_eq_getElem (by omega)⟩
  obtain ⟨y, hy⟩ : ∃ y, b[k]? = some y := ⟨_, List.getElem?_eq_getElem (by omega)⟩
  have hx' := zbv hx
  have hy' := zbv hy
  by_cases he : x = y
  ·have hne : (x != y) = false := by rw [he]; cases y <;> rfl
   ·repeat' first | apply zg | apply zi | refine zf rfl fun K E hK hE => ?_ | refine zC rfl (by kernel_rfl) fun K E hK hE => ?_ | ((first | refine za fun κ η => ?_ | refine zp (by kernel_rfl) fun κ η => ?_); simp only [go_sem, simprocAttr, hd', hx', hy', hne]; (repeat refine ⟨by omega, ?_⟩); refine η _ ?_; clear η κ) | (refine zd (hK _ ?_); clear hE hK E K) | apply zb | refine zh true rfl (fun _ => ?_) (fun h => (by cases h)) | refine zh false rfl (fun h => (by cases h)) fun _ => ?_ | (refine zD (hK _ ?_); clear hE hK E K) | apply zq | apply zj | apply zr
    refine ⟨a.length - (k + 1), by omega, k + 1, rfl, by omega, fun j hj => ?_, _, _, zy rfl ⟨rfl, rfl, rfl, trivial⟩ trivial⟩
    rcases Nat.lt_or_eq_of_le (Nat.lt_succ_iff.1 hj) with h | rfl
    ·exact hno j h
    ·rw [hx, hy, he]
  ·have hne : (x != y) = true := by cases x <;> cases y <;> first | rfl | exact absurd rfl he
   obtain rfl : R = false := by
    rw [hR, decide_eq_false]
    rintro rfl
    rw [hx] at hy
    exact he (Option.some.inj hy)
   ·repeat' first | apply zg | apply zi | refine zf rfl fun K E hK hE => ?_ | refine zC rfl (by kernel_rfl) fun K E hK hE => ?_ | ((first | refine za fun κ η => ?_ | refine zp (by kernel_rfl) fun κ η => ?_); simp only [go_sem, simprocAttr, hd', hx', hy', hne]; (repeat refine ⟨by omega, ?_⟩); refine η _ ?_; clear η κ) | (refine zd (hK _ ?_); clear hE hK E K) | apply zb | refine zh true rfl (fun _ => ?_) (fun h => (by cases h)) | (refine zD (hK _ ?_); clear hE hK E K) | apply zj | apply zm | apply zx | apply zE | apply zI | (apply zn; apply zo; simp only [go_sem, simprocAttr, hd', hx', hy', hne])
 have hd' : ((k : Int) < a.length) = False := eq_false (by omega)
 obtain rfl : R = true := by
  rw [hR, decide_eq_true_eq]
  refine List.ext_getElem? fun j => ?_
  by_cases hj : j < k
  ·exact hno j hj
  ·rw [List.getElem?_eq_none (by omega), List.getElem?_eq_none (by omega)]
 repeat' first | apply zg | refine zf rfl fun K E hK hE => ?_ | (refine za fun κ η => ?_; simp only [go_sem, simprocAttr, hd']; refine η _ ?_; clear η κ) | (refine zd (hK _ ?_); clear hE hK E K) | apply zb | refine zh false rfl (fun h => (by cases h)) fun _ => ?_ | apply zs | apply zm | apply zt | apply zu | apply zw | (apply zn; apply zo; simp only [go_sem, simprocAttr, hd'])
set_option maxHeartbeats 2000000 in
theorem zjT (a b : List (List Bool)) (hal : ∀ x ∈ a, x.length ≤ 140737488355328) (hbl : ∀ x ∈ b, x.length ≤ 140737488355328) (ha : a.length ≤ 140737488355328) (hb : b.length ≤ 140737488355328) : Ct Tryz.prog Hy 20 [.sl (bb a), .sl (bb b)] [.b (decide (a = b))] := by
 obtain ⟨R, hR⟩ : ∃ R, R = decide (a = b) := ⟨_, rfl⟩
 rw [← hR]
 by_cases hl : a.length = b.length
 rotate_left
 ·have hl' : ((a.length : Int) = b.length) = False := eq_false (by omega)
  obtain rfl : R = false := by
   rw [hR, decide_eq_false]
   rintro rfl
   exact hl rfl
  refine zV (cls := _root_.id) zF zH Tryz.func20 rfl (by decide) (Nat.le_of_ble_eq_true rfl) ?_
  rw [show Tryz.f20.ntmps = 27 from rfl, zG]
  simp only [List.zipIdx_cons, List.zipIdx_nil, List.map_cons, List.map_nil, Nat.reduceAdd]
  repeat' first | apply zg | refine zf rfl fun K E hK hE => ?_ | (refine za fun κ η => ?_; simp only [go_sem, simprocAttr, hl']; refine η _ ?_; clear η κ) | (refine zd (hK _ ?_); clear hE hK E K) | apply zb | refine zh true rfl (fun _ => ?_) (fun h => (by cases h)) | apply zm | apply zx | (apply zn; apply zo; simp only [go_sem, simprocAttr, hl'])
 have hl' : ((a.length : Int) = b.length) = True := eq_true (by omega)
 refine zV (cls := _root_.id) zF zH Tryz.func20 rfl (by decide) (Nat.le_of_ble_eq_true rfl) ?_
 rw [show Tryz.f20.ntmps = 27 from rfl, zG]
 simp only [List.zipIdx_cons, List.zipIdx_nil, List.map_cons, List.map_nil, Nat.reduceAdd]
 repeat' first | apply zg | apply zi | refine zf rfl fun K E hK hE => ?_ | (refine za fun κ η => ?_; simp only [go_sem, simprocAttr, hl']; refine η _ ?_; clear η κ) | (refine zd (hK _ ?_); clear hE hK E K) | apply zb | refine zh false rfl (fun h => (by cases h)) fun _ => ?_ | apply zj
 refine zX (fun m s' => ∃ k : Nat, m = a.length - k ∧ k ≤ a.length ∧ (∀ (j : Nat), j < k → a[j]? = b[j]?) ∧ ∃ F G0, s' = nf 27 F G0 [(0, .t (.sl (bb a))), (1, .t (.sl (bb b))), (5, .t (.i .i64 k))] []) a.length ?_ ?_
 ·exact ⟨0, by omega, by omega, fun j hj => absurd hj (Nat.not_lt_zero j), _, _, zy rfl ⟨rfl, rfl, rfl, trivial⟩ trivial⟩
 rintro m s' ⟨k, rfl, hk, hno, F, G0, rfl⟩
 by_cases hd : k < a.length
 ·have hd' : ((k : Int) < a.length) = True := eq_true (by omega)
  obtain ⟨x, hx⟩ : ∃ x, a[k]? = some x := ⟨_, List.getElem?_eq_getElem (by omega)⟩
  obtain ⟨y, hy⟩ : ∃ y, b[k]? = some y := ⟨_, List.getElem?_eq_getElem (by omega)⟩
  have hx' := zeM hx
  have hy' := zeM hy
  by_cases he : x = y
  ·have hc := zd9 Hy x y (hal x (List.mem_of_getElem? hx)) (hbl y (List.mem_of_getElem? hy))
   rw [decide_eq_true he] at hc
   ·repeat' first | apply zg | apply zi | refine zf rfl fun K E hK hE => ?_ | refine zC rfl (by kernel_rfl) fun K E hK hE => ?_ | ((first | refine za fun κ η => ?_ | refine zp (by kernel_rfl) fun κ η => ?_); simp only [go_sem, simprocAttr, hd', hx', hy']; (repeat refine ⟨by omega, ?_⟩); refine η _ ?_; clear η κ) | (refine zd (hK _ ?_); clear hE hK E K) | apply zb | refine zh true rfl (fun _ => ?_) (fun h => (by cases h)) | apply zj
    refine zp (by kernel_rfl) fun κ η => ?_; simp only [go_sem, simprocAttr]; refine ⟨_, hc, ?_⟩; simp only [go_sem, simprocAttr]; refine η _ ?_; clear η κ
    repeat' first | refine zf rfl fun K E hK hE => ?_ | ((first | refine za fun κ η => ?_ | refine zp (by kernel_rfl) fun κ η => ?_); simp only [go_sem, simprocAttr]; (repeat refine ⟨by omega, ?_⟩); refine η _ ?_; clear η κ) | (refine zd (hK _ ?_); clear hE hK E K) | apply zb | refine zh false rfl (fun h => (by cases h)) fun _ => ?_ | (refine zD (hK _ ?_); clear hE hK E K) | apply zq | apply zj | apply zr
    refine ⟨a.length - (k + 1), by omega, k + 1, rfl, by omega, fun j hj => ?_, _, _, zy rfl ⟨rfl, rfl, rfl, trivial⟩ trivial⟩
    rcases Nat.lt_or_eq_of_le (Nat.lt_succ_iff.1 hj) with h | rfl
    ·exact hno j h
    ·rw [hx, hy, he]
  ·have hc := zd9 Hy x y (hal x (List.mem_of_getElem? hx)) (hbl y (List.mem_of_getElem? hy))
   rw [decide_eq_false he] at hc
   obtain rfl : R = false := by
    rw [hR, decide_eq_false]
    rintro rfl
    rw [hx] at hy
    exact he (Option.some.inj hy)
   ·repeat' first | apply zg | apply zi | refine zf rfl fun K E hK hE => ?_ | refine zC rfl (by kernel_rfl) fun K E hK hE => ?_ | ((first | refine za fun κ η => ?_ | refine zp (by kernel_rfl) fun κ η => ?_); simp only [go_sem, simprocAttr, hd', hx', hy']; (repeat refine ⟨by omega, ?_⟩); refine η _ ?_; clear η κ) | (refine zd (hK _ ?_); clear hE hK E K) | apply zb | refine zh true rfl (fun _ => ?_) (fun h => (by cases h)) | apply zj
    refine zp (by kernel_rfl) fun κ η => ?_; simp only [go_sem, simprocAttr]; refine ⟨_, hc, ?_⟩; simp only [go_sem, simprocAttr]; refine η _ ?_; clear η κ
    repeat' first | apply zg | refine zf rfl fun K E hK hE => ?_ | ((first | refine za fun κ η => ?_ | refine zp (by kernel_rfl) fun κ η => ?_); simp only [go_sem, simprocAttr]; refine η _ ?_; clear η κ) | (refine zd (hK _ ?_); clear hE hK E K) | apply zb | refine zh true rfl (fun _ => ?_) (fun h => (by cases h)) | (refine zD (hK _ ?_); clear hE hK E K) | apply zm | apply zx | apply zE | apply zI | (apply zn; apply zo; simp only [go_sem, simprocAttr])
 have hd' : ((k : Int) < a.length) = False := eq_false (by omega)
 obtain rfl : R = true := by
  rw [hR, decide_eq_true_eq]
  refine List.ext_getElem? fun j => ?_
  by_cases hj : j < k
  ·exact hno j hj
  ·rw [List.getElem?_eq_none (by omega), List.getElem?_eq_none (by omega)]
 repeat' first | apply zg | refine zf rfl fun K E hK hE => ?_ | (refine za fun κ η => ?_; simp only [go_sem, simprocAttr, hd']; refine η _ ?_; clear η κ) | (refine zd (hK _ ?_); clear hE hK E K) | apply zb | refine zh false rfl (fun h => (by cases h)) fun _ => ?_ | apply zs | apply zm | apply zt | apply zu | apply zw | (apply zn; apply zo; simp only [go_sem, simprocAttr, hd'])
end Go.Proofs.YtbhoeanfnbkenaaGreatDoor
namespace Go.Proofs.YtbhoeanfnbkenaaGreatDoor
open Go.RowKit Go.WideMaps
set_option maxRecDepth 100000
set_option linter.unusedSimpArgs false
variable (Hy : World → Prop)
attribute [local irreducible] zW zY cwp z1 z7 lpQ z8 asQ bdQ bdY zab zac zad zaa
def tq : ByteArray := ⟨#[113]⟩
def tb_ : ByteArray := ⟨#[98]⟩
def ex8 : Ci := ⟨[], [tq], [⟨tq, tz, 0⟩], [⟨tz, 3, [tq], [], false⟩]⟩
def gt8 : Gt := ⟨zbb, 10, [ta, tb_], [[49, 45]], true⟩
theorem zc5 : CRoom ex8 := zjr (by decide) (by decide) (by decide) (by decide)
theorem zbG : GOk ex8.gts ∧ LOk ex8.las := ⟨fun g hg => by
 simp only [ex8, List.mem_cons, List.not_mem_nil, or_false] at hg
 subst hg
 simp [inR], fun x hx => by
 simp only [ex8, List.mem_cons, List.not_mem_nil, or_false] at hx
 subst hx
 simp [inR]⟩
set_option maxHeartbeats 16000000 in
theorem zjY : Ct Tryz.prog Hy 6 [] [.b true] := by
 have s1 := fun (o : Nat → O) => Cm.of_ct (o := o) (ziL Hy ex8 [] zc5 zbG.1 zbG.2)
 have r1 := fun (o : Nat → O) => Cm.of_ct (o := o) (zjX Hy ex8 [false] [[], [], []] zc5 zbG.1 zbG.2)
 have g1 := fun (o : Nat → O) => Cm.of_ct (o := o) (zlt Hy gt8 [true, false] (by simp [gt8, inR]) (by decide) (by decide) (by decide))
 have v1 := fun (o : Nat → O) => Cm.of_ct (o := o) (ziM Hy ex8 [false] [] zc5 zbG.1 zbG.2)
 have p1 := fun (o : Nat → O) => Cm.of_ct (o := o) (ziN Hy ex8 [] [] zc5 zbG.1 zbG.2)
 have a1 := fun (o : Nat → O) => Cm.of_ct (o := o) (zfw Hy ex8 [false] zc5 zbG.1 zbG.2)
 have a2 := fun (o : Nat → O) => Cm.of_ct (o := o) (zfw Hy ex8 [true] zc5 zbG.1 zbG.2)
 have e1 := fun (o : Nat → O) => Cm.of_ct (o := o) (zjT Hy [[false], [true], [false]] [[false], [true], [false]] (by decide) (by decide) (by decide) (by decide))
 have e2 := fun (o : Nat → O) => Cm.of_ct (o := o) (zd9 Hy [false, true] [false, true] (by decide) (by decide))
 rw [show zbw ex8 [] = ([false], 0) by decide +kernel] at s1
 rw [show zb8 ex8 [false] [[], [], []] = ([[false], [true], [false]], [true], 0) by decide +kernel] at r1
 rw [show okG gt8 [true, false] = true by decide +kernel, show zbp gt8 [true, false] = false by decide +kernel] at g1
 rw [show zaY ex8 [false] [] = ([false, true], 0) by decide +kernel] at v1
 rw [show zaN ex8 [] [] = ([], [], 11) by decide +kernel] at p1
 rw [show zbA ex8 [false] = true by decide +kernel] at a1
 rw [show zbA ex8 [true] = false by decide +kernel] at a2
 rw [decide_eq_true rfl] at e1 e2
 have hs1 : mk [49, 45] = ⟨#[49, 45]⟩ := rfl
 simp only [ex8, gt8, ta, tb_, tq, tz, zbb, cE, gE, sL, rL, bL, hs1, sR, lsR, gsR, rR, bl, bb, List.map_cons, List.map_nil, Bool.true_and, if_true] at s1 r1 g1 v1 p1 a1 a2 e1 e2
 refine zV (cls := _root_.id) zF zH Tryz.func6 rfl (by decide) (Nat.le_of_ble_eq_true rfl) ?_
 rw [show Tryz.f6.ntmps = 110 from rfl, zG]
 simp only [List.zipIdx_cons, List.zipIdx_nil, List.map_cons, List.map_nil, Nat.reduceAdd]
 repeat' first | apply zg | refine zf rfl fun K E hK hE => ?_ | (refine za fun κ η => ?_; simp only [go_sem, simprocAttr]; refine η _ ?_; clear η κ) | (refine zd (hK _ ?_); clear hE hK E K) | apply zb
 refine zaH fun κ η => ?_; simp only [go_sem, simprocAttr]; refine ⟨_, (s1 _), ?_⟩; rintro _ _ ⟨rfl, rfl⟩; simp only [go_sem, simprocAttr]; refine η _ ?_; clear η κ
 repeat' first | apply zg | refine zf rfl fun K E hK hE => ?_ | (refine za fun κ η => ?_; simp only [go_sem, simprocAttr]; refine η _ ?_; clear η κ) | (refine zd (hK _ ?_); clear hE hK E K) | apply zb
 refine zaH fun κ η => ?_; simp only [go_sem, simprocAttr]; refine ⟨_, (r1 _), ?_⟩; rintro _ _ ⟨rfl, rfl⟩; simp only [go_sem, simprocAttr]; refine η _ ?_; clear η κ
 repeat' first | apply zg | refine zf rfl fun K E hK hE => ?_ | (refine za fun κ η => ?_; simp only [go_sem, simprocAttr]; refine η _ ?_; clear η κ) | (refine zd (hK _ ?_); clear hE hK E K) | apply zb
 refine zaH fun κ η => ?_; simp only [go_sem, simprocAttr]; refine ⟨_, (g1 _), ?_⟩; rintro _ _ ⟨rfl, rfl⟩; simp only [go_sem, simprocAttr]; refine η _ ?_; clear η κ
 repeat' first | apply zg | refine zf rfl fun K E hK hE => ?_ | (refine za fun κ η => ?_; simp only [go_sem, simprocAttr]; refine η _ ?_; clear η κ) | (refine zd (hK _ ?_); clear hE hK E K) | apply zb
 refine zaH fun κ η => ?_; simp only [go_sem, simprocAttr]; refine ⟨_, (v1 _), ?_⟩; rintro _ _ ⟨rfl, rfl⟩; simp only [go_sem, simprocAttr]; refine η _ ?_; clear η κ
 repeat' first | apply zg | refine zf rfl fun K E hK hE => ?_ | (refine za fun κ η => ?_; simp only [go_sem, simprocAttr]; refine η _ ?_; clear η κ) | (refine zd (hK _ ?_); clear hE hK E K) | apply zb
 refine zaH fun κ η => ?_; simp only [go_sem, simprocAttr]; refine ⟨_, (p1 _), ?_⟩; rintro _ _ ⟨rfl, rfl⟩; simp only [go_sem, simprocAttr]; refine η _ ?_; clear η κ
 repeat' first | apply zg | refine zf rfl fun K E hK hE => ?_ | ((first | refine za fun κ η => ?_ | refine zk rfl fun κ η => ?_); simp only [go_sem, simprocAttr, eq_self, decide_true]; refine η _ ?_; clear η κ) | (refine zd (hK _ ?_); clear hE hK E K) | apply zb
 refine zaH fun κ η => ?_; simp only [go_sem, simprocAttr]; refine ⟨_, (e1 _), ?_⟩; rintro _ _ ⟨rfl, rfl⟩; simp only [go_sem, simprocAttr]; refine η _ ?_; clear η κ
 repeat' ((first | refine za fun κ η => ?_ | refine zk rfl fun κ η => ?_); simp only [go_sem, simprocAttr, eq_self, decide_true, List.length_cons, List.length_nil, Nat.zero_add, Int.natCast_one, List.getElem?_cons_zero]; refine η _ ?_; clear η κ)
 refine zaH fun κ η => ?_; simp only [go_sem, simprocAttr]; refine ⟨_, (e2 _), ?_⟩; rintro _ _ ⟨rfl, rfl⟩; simp only [go_sem, simprocAttr]; refine η _ ?_; clear η κ
 repeat' ((first | refine za fun κ η => ?_ | refine zk rfl fun κ η => ?_); simp only [go_sem, simprocAttr, eq_self, decide_true]; refine η _ ?_; clear η κ)
 refine zaH fun κ η => ?_; simp only [go_sem, simprocAttr]; refine ⟨_, (a1 _), ?_⟩; rintro _ _ ⟨rfl, rfl⟩; simp only [go_sem, simprocAttr]; refine η _ ?_; clear η κ
 repeat' ((first | refine za fun κ η => ?_ | refine zk rfl fun κ η => ?_); simp only [go_sem, simprocAttr, eq_self, decide_true]; refine η _ ?_; clear η κ)
 refine zaH fun κ η => ?_; simp only [go_sem, simprocAttr]; refine ⟨_, (a2 _), ?_⟩; rintro _ _ ⟨rfl, rfl⟩; simp only [go_sem, simprocAttr]; refine η _ ?_; clear η κ
 repeat' first | ((first | refine za fun κ η => ?_ | refine zk rfl fun κ η => ?_); simp only [go_sem, simprocAttr, eq_self, decide_true]; refine η _ ?_; clear η κ) | (refine zd (hK _ ?_); clear hE hK E K) | apply zb | apply zm | (apply zn; apply zo; simp only [go_sem, simprocAttr, eq_self, decide_true])
end Go.Proofs.YtbhoeanfnbkenaaGreatDoor
