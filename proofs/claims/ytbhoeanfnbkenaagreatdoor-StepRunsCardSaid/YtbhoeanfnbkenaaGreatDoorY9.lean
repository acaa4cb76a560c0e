import Derived.Test.YtbhoeanfnbkenaaGreatDoorY7
import Derived.Test.YtbhoeanfnbkenaaGreatDoorR39
namespace Go.Proofs.YtbhoeanfnbkenaaGreatDoor
open Go.RowKit Go.WideMaps
set_option maxRecDepth 100000
set_option linter.unusedSimpArgs false
variable (Hy : World → Prop)
attribute [local irreducible] zU zY cwp z1 z6 lpQ z8 asQ bdQ bdY zab zac zad zaa
set_option maxHeartbeats 2000000 in
theorem zec (a b : List Bool) (ha : a.length ≤ 140737488355328) (hb : b.length ≤ 140737488355328) : Ct Tryz.prog Hy 15 [.sl (bl a), .sl (bl b)] [.b (decide (a = b))] := by
 obtain ⟨R, hR⟩ : ∃ R, R = decide (a = b) := ⟨_, rfl⟩
 rw [← hR]
 by_cases hl : a.length = b.length
 rotate_left
 ·have hl' : ((a.length : Int) = b.length) = False := eq_false (by omega)
  obtain rfl : R = false := by
   rw [hR, decide_eq_false]
   rintro rfl
   exact hl rfl
  refine zI (cls := _root_.id) zB zD Tryz.func15 rfl (by decide) (Nat.le_of_ble_eq_true rfl) ?_
  rw [show Tryz.f15.ntmps = 26 from rfl, zC]
  simp only [List.zipIdx_cons, List.zipIdx_nil, List.map_cons, List.map_nil, Nat.reduceAdd]
  repeat' first | apply zg | refine zf rfl fun K E hK hE => ?_ | (refine za fun κ η => ?_; simp only [go_sem, simprocAttr, hl']; refine η _ ?_; clear η κ) | (refine zd (hK _ ?_); clear hE hK E K) | apply zb | refine zh true rfl (fun _ => ?_) (fun h => (by cases h)) | apply zk | apply zy | (apply zm; apply zn; simp only [go_sem, simprocAttr, hl'])
 have hl' : ((a.length : Int) = b.length) = True := eq_true (by omega)
 refine zI (cls := _root_.id) zB zD Tryz.func15 rfl (by decide) (Nat.le_of_ble_eq_true rfl) ?_
 rw [show Tryz.f15.ntmps = 26 from rfl, zC]
 simp only [List.zipIdx_cons, List.zipIdx_nil, List.map_cons, List.map_nil, Nat.reduceAdd]
 repeat' first | apply zg | apply zj | refine zf rfl fun K E hK hE => ?_ | (refine za fun κ η => ?_; simp only [go_sem, simprocAttr, hl']; refine η _ ?_; clear η κ) | (refine zd (hK _ ?_); clear hE hK E K) | apply zb | refine zh false rfl (fun h => (by cases h)) fun _ => ?_ | apply zi
 refine zW (fun m s' => ∃ k : Nat, m = a.length - k ∧ k ≤ a.length ∧ (∀ (j : Nat), j < k → a[j]? = b[j]?) ∧ ∃ F G0, s' = nf 26 F G0 [(0, .t (.sl (bl a))), (1, .t (.sl (bl b))), (5, .t (.i .i64 k))] []) a.length ?_ ?_
 ·exact ⟨0, by omega, by omega, fun j hj => absurd hj (Nat.not_lt_zero j), _, _, zp rfl ⟨rfl, rfl, rfl, trivial⟩ trivial⟩
 rintro m s' ⟨k, rfl, hk, hno, F, G0, rfl⟩
 by_cases hd : k < a.length
 ·have hd' : ((k : Int) < a.length) = True := eq_true (by omega)
  obtain ⟨x, hx⟩ : ∃ x, a[k]? = some x := ⟨_, List.getElem?_eq_getElem (by omega)⟩
  obtain ⟨y, hy⟩ : ∃ y, b[k]? = some y := ⟨_, List.getElem?_eq_getElem (by omega)⟩
  have hx' := zbM hx
  have hy' := zbM hy
  by_cases he : x = y
  ·have hne : (x != y) = false := by rw [he]; cases y <;> rfl
   ·repeat' first | apply zg | apply zj | refine zf rfl fun K E hK hE => ?_ | refine zG rfl (by kernel_rfl) fun K E hK hE => ?_ | ((first | refine za fun κ η => ?_ | refine zr (by kernel_rfl) fun κ η => ?_); simp only [go_sem, simprocAttr, hd', hx', hy', hne]; (repeat refine ⟨by omega, ?_⟩); refine η _ ?_; clear η κ) | (refine zd (hK _ ?_); clear hE hK E K) | apply zb | refine zh true rfl (fun _ => ?_) (fun h => (by cases h)) | refine zh false rfl (fun h => (by cases h)) fun _ => ?_ | (refine zH (hK _ ?_); clear hE hK E K) | apply zq | apply zi | apply zs
    refine ⟨a.length - (k + 1), by omega, k + 1, rfl, by omega, fun j hj => ?_, _, _, zp rfl ⟨rfl, rfl, rfl, trivial⟩ trivial⟩
    rcases Nat.lt_or_eq_of_le (Nat.lt_succ_iff.1 hj) with h | rfl
    ·exact hno j h
    ·rw [hx, hy, he]
  ·have hne : (x != y) = true := by cases x <;> cases y <;> first | rfl | exact absurd rfl he
   obtain rfl : R = false := by
    rw [hR, decide_eq_false]
    rintro rfl
    rw [hx] at hy
    exact he (Option.some.inj hy)
   ·repeat' first | apply zg | apply zj | refine zf rfl fun K E hK hE => ?_ | refine zG rfl (by kernel_rfl) fun K E hK hE => ?_ | ((first | refine za fun κ η => ?_ | refine zr (by kernel_rfl) fun κ η => ?_); simp only [go_sem, simprocAttr, hd', hx', hy', hne]; (repeat refine ⟨by omega, ?_⟩); refine η _ ?_; clear η κ) | (refine zd (hK _ ?_); clear hE hK E K) | apply zb | refine zh true rfl (fun _ => ?_) (fun h => (by cases h)) | (refine zH (hK _ ?_); clear hE hK E K) | apply zi | apply zk | apply zy | apply zJ | apply zL | (apply zm; apply zn; simp only [go_sem, simprocAttr, hd', hx', hy', hne])
 have hd' : ((k : Int) < a.length) = False := eq_false (by omega)
 obtain rfl : R = true := by
  rw [hR, decide_eq_true_eq]
  refine List.ext_getElem? fun j => ?_
  by_cases hj : j < k
  ·exact hno j hj
  ·rw [List.getElem?_eq_none (by omega), List.getElem?_eq_none (by omega)]
 repeat' first | apply zg | refine zf rfl fun K E hK hE => ?_ | (refine za fun κ η => ?_; simp only [go_sem, simprocAttr, hd']; refine η _ ?_; clear η κ) | (refine zd (hK _ ?_); clear hE hK E K) | apply zb | refine zh false rfl (fun h => (by cases h)) fun _ => ?_ | apply zt | apply zk | apply zu | apply zw | apply zx | (apply zm; apply zn; simp only [go_sem, simprocAttr, hd'])
set_option maxHeartbeats 2000000 in
theorem zgL (a b : List (List Bool)) (hal : ∀ x ∈ a, x.length ≤ 140737488355328) (hbl : ∀ x ∈ b, x.length ≤ 140737488355328) (ha : a.length ≤ 140737488355328) (hb : b.length ≤ 140737488355328) : Ct Tryz.prog Hy 20 [.sl (bb a), .sl (bb b)] [.b (decide (a = b))] := by
 obtain ⟨R, hR⟩ : ∃ R, R = decide (a = b) := ⟨_, rfl⟩
 rw [← hR]
 by_cases hl : a.length = b.length
 rotate_left
 ·have hl' : ((a.length : Int) = b.length) = False := eq_false (by omega)
  obtain rfl : R = false := by
   rw [hR, decide_eq_false]
   rintro rfl
   exact hl rfl
  refine zI (cls := _root_.id) zB zD Tryz.func20 rfl (by decide) (Nat.le_of_ble_eq_true rfl) ?_
  rw [show Tryz.f20.ntmps = 27 from rfl, zC]
  simp only [List.zipIdx_cons, List.zipIdx_nil, List.map_cons, List.map_nil, Nat.reduceAdd]
  repeat' first | apply zg | refine zf rfl fun K E hK hE => ?_ | (refine za fun κ η => ?_; simp only [go_sem, simprocAttr, hl']; refine η _ ?_; clear η κ) | (refine zd (hK _ ?_); clear hE hK E K) | apply zb | refine zh true rfl (fun _ => ?_) (fun h => (by cases h)) | apply zk | apply zy | (apply zm; apply zn; simp only [go_sem, simprocAttr, hl'])
 have hl' : ((a.length : Int) = b.length) = True := eq_true (by omega)
 refine zI (cls := _root_.id) zB zD Tryz.func20 rfl (by decide) (Nat.le_of_ble_eq_true rfl) ?_
 rw [show Tryz.f20.ntmps = 27 from rfl, zC]
 simp only [List.zipIdx_cons, List.zipIdx_nil, List.map_cons, List.map_nil, Nat.reduceAdd]
 repeat' first | apply zg | apply zj | refine zf rfl fun K E hK hE => ?_ | (refine za fun κ η => ?_; simp only [go_sem, simprocAttr, hl']; refine η _ ?_; clear η κ) | (refine zd (hK _ ?_); clear hE hK E K) | apply zb | refine zh false rfl (fun h => (by cases h)) fun _ => ?_ | apply zi
 refine zW (fun m s' => ∃ k : Nat, m = a.length - k ∧ k ≤ a.length ∧ (∀ (j : Nat), j < k → a[j]? = b[j]?) ∧ ∃ F G0, s' = nf 27 F G0 [(0, .t (.sl (bb a))), (1, .t (.sl (bb b))), (5, .t (.i .i64 k))] []) a.length ?_ ?_
 ·exact ⟨0, by omega, by omega, fun j hj => absurd hj (Nat.not_lt_zero j), _, _, zp rfl ⟨rfl, rfl, rfl, trivial⟩ trivial⟩
 rintro m s' ⟨k, rfl, hk, hno, F, G0, rfl⟩
 by_cases hd : k < a.length
 ·have hd' : ((k : Int) < a.length) = True := eq_true (by omega)
  obtain ⟨x, hx⟩ : ∃ x, a[k]? = some x := ⟨_, List.getElem?_eq_getElem (by omega)⟩
  obtain ⟨y, hy⟩ : ∃ y, b[k]? = some y := ⟨_, List.getElem?_eq_getElem (by omega)⟩
  have hx' := zdp hx
  have hy' := zdp hy
  by_cases he : x = y
  ·have hc := zec Hy x y (hal x (List.mem_of_getElem? hx)) (hbl y (List.mem_of_getElem? hy))
   rw [decide_eq_true he] at hc
   ·repeat' first | apply zg | apply zj | refine zf rfl fun K E hK hE => ?_ | refine zG rfl (by kernel_rfl) fun K E hK hE => ?_ | ((first | refine za fun κ η => ?_ | refine zr (by kernel_rfl) fun κ η => ?_); simp only [go_sem, simprocAttr, hd', hx', hy']; (repeat refine ⟨by omega, ?_⟩); refine η _ ?_; clear η κ) | (refine zd (hK _ ?_); clear hE hK E K) | apply zb | refine zh true rfl (fun _ => ?_) (fun h => (by cases h)) | apply zi
    refine zr (by kernel_rfl) fun κ η => ?_; simp only [go_sem, simprocAttr]; refine ⟨_, hc, ?_⟩; simp only [go_sem, simprocAttr]; refine η _ ?_; clear η κ
    repeat' first | refine zf rfl fun K E hK hE => ?_ | ((first | refine za fun κ η => ?_ | refine zr (by kernel_rfl) fun κ η => ?_); simp only [go_sem, simprocAttr]; (repeat refine ⟨by omega, ?_⟩); refine η _ ?_; clear η κ) | (refine zd (hK _ ?_); clear hE hK E K) | apply zb | refine zh false rfl (fun h => (by cases h)) fun _ => ?_ | (refine zH (hK _ ?_); clear hE hK E K) | apply zq | apply zi | apply zs
    refine ⟨a.length - (k + 1), by omega, k + 1, rfl, by omega, fun j hj => ?_, _, _, zp rfl ⟨rfl, rfl, rfl, trivial⟩ trivial⟩
    rcases Nat.lt_or_eq_of_le (Nat.lt_succ_iff.1 hj) with h | rfl
    ·exact hno j h
    ·rw [hx, hy, he]
  ·have hc := zec Hy x y (hal x (List.mem_of_getElem? hx)) (hbl y (List.mem_of_getElem? hy))
   rw [decide_eq_false he] at hc
   obtain rfl : R = false := by
    rw [hR, decide_eq_false]
    rintro rfl
    rw [hx] at hy
    exact he (Option.some.inj hy)
   ·repeat' first | apply zg | apply zj | refine zf rfl fun K E hK hE => ?_ | refine zG rfl (by kernel_rfl) fun K E hK hE => ?_ | ((first | refine za fun κ η => ?_ | refine zr (by kernel_rfl) fun κ η => ?_); simp only [go_sem, simprocAttr, hd', hx', hy']; (repeat refine ⟨by omega, ?_⟩); refine η _ ?_; clear η κ) | (refine zd (hK _ ?_); clear hE hK E K) | apply zb | refine zh true rfl (fun _ => ?_) (fun h => (by cases h)) | apply zi
    refine zr (by kernel_rfl) fun κ η => ?_; simp only [go_sem, simprocAttr]; refine ⟨_, hc, ?_⟩; simp only [go_sem, simprocAttr]; refine η _ ?_; clear η κ
    repeat' first | apply zg | refine zf rfl fun K E hK hE => ?_ | ((first | refine za fun κ η => ?_ | refine zr (by kernel_rfl) fun κ η => ?_); simp only [go_sem, simprocAttr]; refine η _ ?_; clear η κ) | (refine zd (hK _ ?_); clear hE hK E K) | apply zb | refine zh true rfl (fun _ => ?_) (fun h => (by cases h)) | (refine zH (hK _ ?_); clear hE hK E K) | apply zk | apply zy | apply zJ | apply zL | (apply zm; apply zn; simp only [go_sem, simprocAttr])
 have hd' : ((k : Int) < a.length) = False := eq_false (by omega)
 obtain rfl : R = true := by
  rw [hR, decide_eq_true_eq]
  refine List.ext_getElem? fun j => ?_
  by_cases hj : j < k
  ·exact hno j hj
  ·rw [List.getElem?_eq_none (by omega), List.getElem?_eq_none (by omega)]
 repeat' first | apply zg | refine zf rfl fun K E hK hE => ?_ | (refine za fun κ η => ?_; simp only [go_sem, simprocAttr, hd']; refine η _ ?_; clear η κ) | (refine zd (hK _ ?_); clear hE hK E K) | apply zb | refine zh false rfl (fun h => (by cases h)) fun _ => ?_ | apply zt | apply zk | apply zu | apply zw | apply zx | (apply zm; apply zn; simp only [go_sem, simprocAttr, hd'])
def zbQ (l : List (List Bool)) (k : Nat) : Bool := decide (l.length ≤ k) && l.all fun s => decide (s.length ≤ 60)
theorem zjO {l : List (List Bool)} {k : Nat} (h : zbQ l k = true) : l.length ≤ k ∧ ∀ s ∈ l, s.length ≤ 60 := by
 unfold zbQ at h
 rw [Bool.and_eq_true, decide_eq_true_eq, List.all_eq_true] at h
 exact ⟨h.1, fun s hs => of_decide_eq_true (h.2 s hs)⟩
set_option maxHeartbeats 2000000 in
theorem zjP (l : List (List Bool)) (k : Nat) (hk : k ≤ 1000) : Ct Tryz.prog Hy 17 [.sl (bb l), .i .i64 k] [.b (zbQ l k)] := by
 obtain ⟨R, hR⟩ : ∃ R, R = zbQ l k := ⟨_, rfl⟩
 rw [← hR]
 refine zI (cls := _root_.id) zB zD Tryz.func17 rfl (by decide) (Nat.le_of_ble_eq_true rfl) ?_
 rw [show Tryz.f17.ntmps = 27 from rfl, zC]
 simp only [List.zipIdx_cons, List.zipIdx_nil, List.map_cons, List.map_nil, Nat.reduceAdd]
 repeat' first | apply zg | apply zj | refine zf rfl fun K E hK hE => ?_ | (refine za fun κ η => ?_; simp only [go_sem, simprocAttr]; refine η _ ?_; clear η κ) | (refine zd (hK _ ?_); clear hE hK E K) | apply zb
 refine zW (fun m s' => ∃ i : Nat, m = k + 1 - i ∧ i ≤ k + 1 ∧ i ≤ l.length ∧ (∀ (j : Nat) r, j < i → l[j]? = some r → r.length ≤ 60) ∧ ∃ F G0, s' = nf 27 F G0 [(0, .t (.sl (bb l))), (1, .t (.i .i64 k)), (5, .t (.i .i64 i))] []) (k + 1) ?_ ?_
 ·exact ⟨0, by omega, by omega, by omega, fun j r hj => absurd hj (Nat.not_lt_zero j), _, _, zp rfl ⟨rfl, rfl, rfl, trivial⟩ trivial⟩
 rintro m s' ⟨i, rfl, hi1, hi2, hno, F, G0, rfl⟩
 by_cases c1 : (i : Int) < l.length
 ·have c1' := eq_true c1
  by_cases c2 : (i : Int) ≤ k
  ·obtain ⟨r, hr⟩ : ∃ r, l[i]? = some r := ⟨_, List.getElem?_eq_getElem (by omega)⟩
   have hr' := zdp hr
   have c2' := eq_true c2
   by_cases c3 : (60 : Int) < r.length
   ·have hb : zbQ l k = false := by
     unfold zbQ
     rw [Bool.and_eq_false_iff]
     refine .inr ?_
     rw [List.all_eq_false]
     exact ⟨r, List.mem_of_getElem? hr, by simp; omega⟩
    obtain rfl : R = false := hR.trans hb
    have c3' := eq_true c3
    repeat' first | apply zg | apply zj | refine zf rfl fun K E hK hE => ?_ | ((first | refine za fun κ η => ?_ | refine zo rfl fun κ η => ?_); simp only [go_sem, simprocAttr, c1', c2', hr', c3']; (repeat refine ⟨by omega, ?_⟩); refine η _ ?_; clear η κ) | (refine zd (hK _ ?_); clear hE hK E K) | apply zb | refine zh true rfl (fun _ => ?_) (fun h => (by cases h)) | apply zi | apply zk | apply zy | apply zJ | apply zL | (apply zm; apply zn; simp only [go_sem, simprocAttr, c1', c2', hr', c3'])
   ·have c3' := eq_false c3
    repeat' first | apply zg | apply zj | refine zf rfl fun K E hK hE => ?_ | ((first | refine za fun κ η => ?_ | refine zo rfl fun κ η => ?_); simp only [go_sem, simprocAttr, c1', c2', hr', c3']; (repeat refine ⟨by omega, ?_⟩); refine η _ ?_; clear η κ) | (refine zd (hK _ ?_); clear hE hK E K) | apply zb | refine zh true rfl (fun _ => ?_) (fun h => (by cases h)) | refine zh false rfl (fun h => (by cases h)) fun _ => ?_ | apply zq | apply zi | apply zs
    refine ⟨k + 1 - (i + 1), by omega, i + 1, rfl, by omega, by omega, fun j y hj hy => ?_, _, _, zp rfl ⟨rfl, rfl, rfl, trivial⟩ trivial⟩
    rcases Nat.lt_or_eq_of_le (Nat.lt_succ_iff.1 hj) with h | rfl
    ·exact hno j y h hy
    ·rw [hr] at hy
     cases hy
     omega
  ·have hb : zbQ l k = false := by
    unfold zbQ
    rw [decide_eq_false (by omega)]
    rfl
   have c4 : ((l.length : Int) ≤ k) = False := eq_false (by omega)
   obtain rfl : R = false := hR.trans hb
   have c2' := eq_false c2
   repeat' first | apply zg | refine zf rfl fun K E hK hE => ?_ | ((first | refine za fun κ η => ?_ | refine zo rfl fun κ η => ?_); simp only [go_sem, simprocAttr, c1', c2', c4]; refine η _ ?_; clear η κ) | (refine zd (hK _ ?_); clear hE hK E K) | apply zb | refine zh false rfl (fun h => (by cases h)) fun _ => ?_ | apply zt | apply zk | apply zu | apply zw | apply zx | (apply zm; apply zn; simp only [go_sem, simprocAttr, c1', c2', c4])
 ·have hall : l.all (fun r => decide (r.length ≤ 60)) = true := by
   rw [List.all_eq_true]
   intro r hr
   obtain ⟨j, hj⟩ := List.getElem?_of_mem hr
   have := (List.getElem?_eq_some_iff.1 hj).1
   exact decide_eq_true (hno j r (by omega) hj)
  have hb : zbQ l k = decide ((l.length : Int) ≤ k) := by
   unfold zbQ
   rw [hall, Bool.and_true, decide_eq_decide]
   omega
  obtain rfl : R = decide ((l.length : Int) ≤ k) := hR.trans hb
  have c1' := eq_false c1
  repeat' first | apply zg | refine zf rfl fun K E hK hE => ?_ | ((first | refine za fun κ η => ?_ | refine zo rfl fun κ η => ?_); simp only [go_sem, simprocAttr, c1']; refine η _ ?_; clear η κ) | (refine zd (hK _ ?_); clear hE hK E K) | apply zb | refine zh false rfl (fun h => (by cases h)) fun _ => ?_ | apply zt | apply zk | apply zu | apply zw | apply zx | (apply zm; apply zn; simp only [go_sem, simprocAttr, c1'])
end Go.Proofs.YtbhoeanfnbkenaaGreatDoor
namespace Go.Proofs.YtbhoeanfnbkenaaGreatDoor
open Go.RowKit Go.WideMaps
set_option maxRecDepth 100000
set_option linter.unusedSimpArgs false
variable (Hy : World → Prop)
attribute [local irreducible] zU zY cwp z1 z6 lpQ z8 asQ bdQ bdY zab zac zad zaa
def tq : ByteArray := ⟨#[113]⟩
def tb_ : ByteArray := ⟨#[98]⟩
def ex8 : Ci := ⟨[], [tq], [⟨tq, tz, 0⟩], [⟨tz, 3, [tq], [], false⟩]⟩
def gt8 : Gt := ⟨zba, 10, [ta, tb_], [[49, 45]], true⟩
theorem zc6 : CRoom ex8 := zjp (by decide) (by decide) (by decide) (by decide)
theorem zbG : GOk ex8.gts ∧ LOk ex8.las := ⟨fun g hg => by
 simp only [ex8, List.mem_cons, List.not_mem_nil, or_false] at hg
 subst hg
 simp [inR], fun x hx => by
 simp only [ex8, List.mem_cons, List.not_mem_nil, or_false] at hx
 subst hx
 simp [inR]⟩
set_option maxHeartbeats 16000000 in
theorem zjR : Ct Tryz.prog Hy 6 [] [.b true] := by
 have s1 := fun (o : Nat → O) => Cm.of_ct (o := o) (zmL Hy ex8 [] zc6 zbG.1 zbG.2)
 have r1 := fun (o : Nat → O) => Cm.of_ct (o := o) (zgO Hy ex8 [false] [[], [], []] zc6 zbG.1 zbG.2)
 have g1 := fun (o : Nat → O) => Cm.of_ct (o := o) (zln Hy gt8 [true, false] (by simp [gt8, inR]) (by decide) (by decide) (by decide))
 have v1 := fun (o : Nat → O) => Cm.of_ct (o := o) (zmN Hy ex8 [false] [] zc6 zbG.1 zbG.2)
 have p1 := fun (o : Nat → O) => Cm.of_ct (o := o) (zmO Hy ex8 [] [] zc6 zbG.1 zbG.2)
 have a1 := fun (o : Nat → O) => Cm.of_ct (o := o) (zhM Hy ex8 [false] zc6 zbG.1 zbG.2)
 have a2 := fun (o : Nat → O) => Cm.of_ct (o := o) (zhM Hy ex8 [true] zc6 zbG.1 zbG.2)
 have e1 := fun (o : Nat → O) => Cm.of_ct (o := o) (zgL Hy [[false], [true], [false]] [[false], [true], [false]] (by decide) (by decide) (by decide) (by decide))
 have e2 := fun (o : Nat → O) => Cm.of_ct (o := o) (zec Hy [false, true] [false, true] (by decide) (by decide))
 rw [show zd2 ex8 [] = ([false], 0) by decide +kernel] at s1
 rw [show zaA ex8 [false] [[], [], []] = ([[false], [true], [false]], [true], 0) by decide +kernel] at r1
 rw [show okG gt8 [true, false] = true by decide +kernel, show zbp gt8 [true, false] = false by decide +kernel] at g1
 rw [show zbr ex8 [false] [] = ([false, true], 0) by decide +kernel] at v1
 rw [show zbk ex8 [] [] = ([], [], 11) by decide +kernel] at p1
 rw [show zcT ex8 [false] = true by decide +kernel] at a1
 rw [show zcT ex8 [true] = false by decide +kernel] at a2
 rw [decide_eq_true rfl] at e1 e2
 have hs1 : mk [49, 45] = ⟨#[49, 45]⟩ := rfl
 simp only [ex8, gt8, ta, tb_, tq, tz, zba, cE, gE, sL, rL, bL, hs1, sR, lsR, gsR, rR, bl, bb, List.map_cons, List.map_nil, Bool.true_and, if_true] at s1 r1 g1 v1 p1 a1 a2 e1 e2
 refine zI (cls := _root_.id) zB zD Tryz.func6 rfl (by decide) (Nat.le_of_ble_eq_true rfl) ?_
 rw [show Tryz.f6.ntmps = 110 from rfl, zC]
 simp only [List.zipIdx_cons, List.zipIdx_nil, List.map_cons, List.map_nil, Nat.reduceAdd]
 repeat' first | apply zg | refine zf rfl fun K E hK hE => ?_ | (refine za fun κ η => ?_; simp only [go_sem, simprocAttr]; refine η _ ?_; clear η κ) | (refine zd (hK _ ?_); clear hE hK E K) | apply zb
 refine zaI fun κ η => ?_; simp only [go_sem, simprocAttr]; refine ⟨_, (s1 _), ?_⟩; rintro _ _ ⟨rfl, rfl⟩; simp only [go_sem, simprocAttr]; refine η _ ?_; clear η κ
 repeat' first | apply zg | refine zf rfl fun K E hK hE => ?_ | (refine za fun κ η => ?_; simp only [go_sem, simprocAttr]; refine η _ ?_; clear η κ) | (refine zd (hK _ ?_); clear hE hK E K) | apply zb
 refine zaI fun κ η => ?_; simp only [go_sem, simprocAttr]; refine ⟨_, (r1 _), ?_⟩; rintro _ _ ⟨rfl, rfl⟩; simp only [go_sem, simprocAttr]; refine η _ ?_; clear η κ
 repeat' first | apply zg | refine zf rfl fun K E hK hE => ?_ | (refine za fun κ η => ?_; simp only [go_sem, simprocAttr]; refine η _ ?_; clear η κ) | (refine zd (hK _ ?_); clear hE hK E K) | apply zb
 refine zaI fun κ η => ?_; simp only [go_sem, simprocAttr]; refine ⟨_, (g1 _), ?_⟩; rintro _ _ ⟨rfl, rfl⟩; simp only [go_sem, simprocAttr]; refine η _ ?_; clear η κ
 repeat' first | apply zg | refine zf rfl fun K E hK hE => ?_ | (refine za fun κ η => ?_; simp only [go_sem, simprocAttr]; refine η _ ?_; clear η κ) | (refine zd (hK _ ?_); clear hE hK E K) | apply zb
 refine zaI fun κ η => ?_; simp only [go_sem, simprocAttr]; refine ⟨_, (v1 _), ?_⟩; rintro _ _ ⟨rfl, rfl⟩; simp only [go_sem, simprocAttr]; refine η _ ?_; clear η κ
 repeat' first | apply zg | refine zf rfl fun K E hK hE => ?_ | (refine za fun κ η => ?_; simp only [go_sem, simprocAttr]; refine η _ ?_; clear η κ) | (refine zd (hK _ ?_); clear hE hK E K) | apply zb
 refine zaI fun κ η => ?_; simp only [go_sem, simprocAttr]; refine ⟨_, (p1 _), ?_⟩; rintro _ _ ⟨rfl, rfl⟩; simp only [go_sem, simprocAttr]; refine η _ ?_; clear η κ
 repeat' first | apply zg | refine zf rfl fun K E hK hE => ?_ | ((first | refine za fun κ η => ?_ | refine zo rfl fun κ η => ?_); simp only [go_sem, simprocAttr, eq_self, decide_true]; refine η _ ?_; clear η κ) | (refine zd (hK _ ?_); clear hE hK E K) | apply zb
 refine zaI fun κ η => ?_; simp only [go_sem, simprocAttr]; refine ⟨_, (e1 _), ?_⟩; rintro _ _ ⟨rfl, rfl⟩; simp only [go_sem, simprocAttr]; refine η _ ?_; clear η κ
 repeat' ((first | refine za fun κ η => ?_ | refine zo rfl fun κ η => ?_); simp only [go_sem, simprocAttr, eq_self, decide_true, List.length_cons, List.length_nil, Nat.zero_add, Int.natCast_one, List.getElem?_cons_zero]; refine η _ ?_; clear η κ)
 refine zaI fun κ η => ?_; simp only [go_sem, simprocAttr]; refine ⟨_, (e2 _), ?_⟩; rintro _ _ ⟨rfl, rfl⟩; simp only [go_sem, simprocAttr]; refine η _ ?_; clear η κ
 repeat' ((first | refine za fun κ η => ?_ | refine zo rfl fun κ η => ?_); simp only [go_sem, simprocAttr, eq_self, decide_true]; refine η _ ?_; clear η κ)
 refine zaI fun κ η => ?_; simp only [go_sem, simprocAttr]; refine ⟨_, (a1 _), ?_⟩; rintro _ _ ⟨rfl, rfl⟩; simp only [go_sem, simprocAttr]; refine η _ ?_; clear η κ
 repeat' ((first | refine za fun κ η => ?_ | refine zo rfl fun κ η => ?_); simp only [go_sem, simprocAttr, eq_self, decide_true]; refine η _ ?_; clear η κ)
 refine zaI fun κ η => ?_; simp only [go_sem, simprocAttr]; refine ⟨_, (a2 _), ?_⟩; rintro _ _ ⟨rfl, rfl⟩; simp only [go_sem, simprocAttr]; refine η _ ?_; clear η κ
 repeat' first | ((first | refine za fun κ η => ?_ | refine zo rfl fun κ η => ?_); simp only [go_sem, simprocAttr, eq_self, decide_true]; refine η _ ?_; clear η κ) | (refine zd (hK _ ?_); clear hE hK E K) | apply zb | apply zk | (apply zm; apply zn; simp only [go_sem, simprocAttr, eq_self, decide_true])
end Go.Proofs.YtbhoeanfnbkenaaGreatDoor
