import Derived.Test.YtbhoeanfnbkenaaGreatDoorR7
import Derived.Test.YtbhoeanfnbkenaaGreatDoorQ5
namespace Go.Proofs.YtbhoeanfnbkenaaGreatDoor
open Go.RowKit
set_option maxRecDepth 100000
set_option linter.unusedSimpArgs false
variable (Hy : World → Prop)
attribute [local irreducible] zU zY cwp z1 z6 lpQ z8 asQ bdQ bdY zab zac zad zaa
def zaJ (c : UInt8) (n : Nat) : Row := List.replicate n c
theorem zmr (c : UInt8) (n : Nat) : mk (zaJ c (n + 1)) = mk (zaJ c n) ++ mk [c] := by rw [zhJ]; unfold zaJ; rw [List.replicate_succ']
theorem zeN (c : UInt8) (n : Nat) (hn : n ≤ 1000) : Ct Tryz.prog Hy 71 [.s (mk [c]), .i .i64 n] [.s (mk (zaJ c n))] := by
 refine zI (cls := _root_.id) zB zD Tryz.func71 rfl (by decide) (Nat.le_of_ble_eq_true rfl) ?_
 rw [show Tryz.f71.ntmps = 16 from rfl, zC]
 simp only [List.zipIdx_cons, List.zipIdx_nil, List.map_cons, List.map_nil, Nat.reduceAdd]
 repeat' first | apply zg | apply zj | refine zf rfl fun K E hK hE => ?_ | (refine za fun κ η => ?_; simp only [go_sem, simprocAttr]; refine η _ ?_; clear η κ) | (refine zd (hK _ ?_); clear hE hK E K) | apply zb
 refine zW (fun m s' => ∃ k : Nat, m = n - k ∧ k ≤ n ∧ (True) ∧ ∃ F G0, s' = nf 16 F G0 [(0, .t (.s (mk [c]))), (1, .t (.i .i64 n)), (5, .t (.s (mk (zaJ c k)))), (6, .t (.i .i64 k))] []) (n) ?_ ?_
 ·exact ⟨0, by omega, by omega, trivial, _, _, zp rfl ⟨rfl, rfl, rfl, rfl, trivial⟩ trivial⟩
 rintro m s' ⟨k, rfl, hk, hno, F, G0, rfl⟩
 by_cases c1 : k < n
 ·have hs := zmr c k
  have h1 : (mk (zaJ c k)).size + (mk [c]).size ≤ 2000 := by rw [zbI, zbI, zaJ, List.length_replicate]; show k + 1 ≤ 2000; omega
  have c1' : ((k : Int) < n) = True := eq_true (by omega)
  generalize mk (zaJ c k) = s0 at *
  repeat' first | apply zg | apply zj | refine zf rfl fun K E hK hE => ?_ | (refine za fun κ η => ?_; simp only [go_sem, simprocAttr, c1', ← hs]; (repeat refine ⟨by omega, ?_⟩); refine η _ ?_; clear η κ) | (refine zd (hK _ ?_); clear hE hK E K) | apply zb | refine zh true rfl (fun _ => ?_) (fun h => (by cases h)) | apply zq | apply zi | apply zs
  refine ⟨n - (k + 1), by omega, k + 1, rfl, by omega, trivial, _, _, zp rfl ⟨rfl, rfl, rfl, rfl, trivial⟩ trivial⟩
 ·obtain rfl : k = n := by omega
  repeat' first | apply zg | refine zf rfl fun K E hK hE => ?_ | (refine za fun κ η => ?_; simp only [go_sem, simprocAttr, Int.lt_irrefl]; refine η _ ?_; clear η κ) | (refine zd (hK _ ?_); clear hE hK E K) | apply zb | refine zh false rfl (fun h => (by cases h)) fun _ => ?_ | apply zt | apply zk | apply zu | apply zw | apply zx | (apply zm; apply zn; simp only [go_sem, simprocAttr, Int.lt_irrefl])
def za1 (k i : Nat) : Nat := k / 2 ^ i % 2
def sgB (k i : Nat) : UInt8 := if za1 k i = 1 then 49 else 48
def za2 (k n j : Nat) : Row := (List.range j).map fun t => sgB k (n - 1 - t)
def za3 (k n : Nat) : Nat → Nat
 | 0 => 0
 | j + 1 => za3 k n j + za1 k (n - 1 - j)
def zaK (n want m : Nat) : List Row := ((List.range m).filter fun k => decide (za3 k n n % 2 = want)).map fun k => za2 k n n
theorem zfL (k i : Nat) : za1 k i = 0 ∨ za1 k i = 1 := by unfold za1; omega
theorem zfM (k n : Nat) : ∀ j, za3 k n j ≤ j
 | 0 => Nat.le_refl _
 | j + 1 => by
  have := zfM k n j
  have := zfL k (n - 1 - j)
  unfold za3
  omega
theorem zms (k n j : Nat) : mk (za2 k n (j + 1)) = mk (za2 k n j) ++ mk [sgB k (n - 1 - j)] := by rw [zhJ]; unfold za2; rw [List.range_succ, List.map_append]; rfl
theorem ziv (k n j : Nat) : (za2 k n j).length = j := by simp [za2]
theorem zmt (n want m : Nat) : rR (zaK n want (m + 1)) = rR (zaK n want m) ++ (if za3 m n n % 2 = want then [[.s (mk (za2 m n n))]] else []) := by
 unfold zaK rR
 rw [List.range_succ, List.filter_append, List.map_append, List.map_append]
 by_cases c : za3 m n n % 2 = want
 ·rw [if_pos c, List.filter_cons, if_pos (by rw [decide_eq_true c])]; rfl
 ·rw [if_neg c, List.filter_cons, if_neg (by rw [decide_eq_false c]; decide)]; rfl
theorem ziw (n want m : Nat) : (rR (zaK n want m)).length ≤ m := by
 unfold zaK rR
 rw [List.length_map, List.length_map]
 exact Nat.le_trans (List.length_filter_le _ _) (by rw [List.length_range]; exact Nat.le_refl _)
set_option maxHeartbeats 4000000 in
theorem zix (n want : Nat) (hn : n ≤ 8) : Ct Tryz.prog Hy 72 [.i .i64 n, .i .i64 want] [.sl (rR (zaK n want (2 ^ n)))] := by
 have hM : 2 ^ n ≤ 2 ^ 8 := Nat.pow_le_pow_right (by omega) hn
 have hpow : ((2 : Int) ^ n) = ((2 ^ n : Nat) : Int) := by simp
 generalize 2 ^ n = M at *
 refine zI (cls := _root_.id) zB zD Tryz.func72 rfl (by decide) (Nat.le_of_ble_eq_true rfl) ?_
 rw [show Tryz.f72.ntmps = 44 from rfl, zC]
 simp only [List.zipIdx_cons, List.zipIdx_nil, List.map_cons, List.map_nil, Nat.reduceAdd]
 repeat' first | apply zg | apply zj | refine zf rfl fun K E hK hE => ?_ | (refine za fun κ η => ?_; simp only [go_sem, simprocAttr]; refine η _ ?_; clear η κ) | (refine zd (hK _ ?_); clear hE hK E K) | apply zb
 refine zW (fun m s' => ∃ k : Nat, m = M - k ∧ k ≤ M ∧ ∃ F G0 yy, s' = nf 44 F G0 [(0, .t (.i .i64 n)), (1, .t (.i .i64 want)), (5, yy), (6, .t (.i .i64 k))] [] ∧ Acc G0 42 9 1 (rR (zaK n want k)) yy) M ?_ ?_
 ·exact ⟨0, by omega, by omega, _, _, _, zp rfl ⟨rfl, rfl, rfl, rfl, trivial⟩ trivial, .inl ⟨rfl, rfl⟩⟩
 rintro m s' ⟨k, rfl, hk, F, G0, yy, rfl, hy⟩
 by_cases hd : k < M
 ·have hd' : ((k : Int) < M) = True := eq_true (by omega)
  have hst := zmt n want k
  have hlen : (rR (zaK n want k)).length ≤ 1000 := by have := ziw n want k; omega
  generalize rR (zaK n want k) = rw0 at hst hlen hy
  have ho8 := zfM k n n
  repeat' first | apply zg | apply zj | refine zf rfl fun K E hK hE => ?_ | (refine za fun κ η => ?_; simp only [go_sem, simprocAttr, Int.toNat_natCast, Int.one_mul, hpow, hd']; (repeat refine ⟨by omega, ?_⟩); refine η _ ?_; clear η κ) | (refine zd (hK _ ?_); clear hE hK E K) | apply zb | refine zh true rfl (fun _ => ?_) (fun h => (by cases h)) | apply zi
  refine zW (fun m s' => ∃ j : Nat, m = n - j ∧ j ≤ n ∧ ∃ F, s' = nf 44 F G0 [(0, .t (.i .i64 n)), (1, .t (.i .i64 want)), (5, yy), (6, .t (.i .i64 k)), (7, .t (.s (mk (za2 k n j)))), (8, .t (.i .i64 (za3 k n j))), (9, .t (.i .i64 ((n : Int) - 1 - j)))] []) n ?_ ?_
  ·exact ⟨0, by omega, by omega, _, zp rfl ⟨rfl, rfl, rfl, rfl, rfl, rfl, congrArg (fun z : Int => A.t (.i .i64 z)) (by omega), trivial⟩ trivial⟩
  rintro m s' ⟨j, rfl, hj, F, rfl⟩
  by_cases hj2 : j < n
  ·have hcast : ((n : Int) - 1 - j) = ((n - 1 - j : Nat) : Int) := by omega
   have hd2 : ((0 : Int) ≤ ((n - 1 - j : Nat) : Int)) = True := eq_true (by omega)
   have hfd : ((k : Int).fdiv (2 ^ (n - 1 - j))) = ((k / 2 ^ (n - 1 - j) : Nat) : Int) := by
    rw [Int.fdiv_eq_ediv_of_nonneg _ (Int.pow_nonneg (by decide))]
    simp
   have hmd : (((k / 2 ^ (n - 1 - j) : Nat) : Int).tmod 2) = ((za1 k (n - 1 - j) : Nat) : Int) := rfl
   have hps := zms k n j
   have hon : za3 k n (j + 1) = za3 k n j + za1 k (n - 1 - j) := rfl
   have h1 : (mk (za2 k n j)).size ≤ 2000 := by rw [zbI, ziv]; omega
   have hol := zfM k n j
   rw [hcast]
   rcases zfL k (n - 1 - j) with hb | hb
   ·rw [show sgB k (n - 1 - j) = 48 from if_neg (by rw [hb]; decide)] at hps
    rw [hb] at hmd hon
    generalize mk (za2 k n j) = s0 at *
    generalize k / 2 ^ (n - 1 - j) = kd at *
    repeat' first | apply zg | apply zj | refine zf rfl fun K E hK hE => ?_ | (refine za fun κ η => ?_; simp only [go_sem, simprocAttr, hd2, Int.toNat_natCast, hfd, hmd, Int.natCast_zero, show (⟨#[48]⟩ : ByteArray).size = 1 from rfl]; (repeat refine ⟨by omega, ?_⟩); refine η _ ?_; clear η κ) | (refine zd (hK _ ?_); clear hE hK E K) | apply zb | refine zh true rfl (fun _ => ?_) (fun h => (by cases h)) | refine zh false rfl (fun h => (by cases h)) fun _ => ?_ | apply zq | apply zi | apply zs
    exact ⟨n - (j + 1), by omega, j + 1, rfl, by omega, _, zp rfl ⟨rfl, rfl, rfl, rfl, by rw [hps]; rfl, by rw [hon]; rfl, congrArg (fun z : Int => A.t (.i .i64 z)) (by omega), trivial⟩ trivial⟩
   ·rw [show sgB k (n - 1 - j) = 49 from if_pos hb] at hps
    rw [hb] at hmd hon
    generalize mk (za2 k n j) = s0 at *
    generalize k / 2 ^ (n - 1 - j) = kd at *
    repeat' first | apply zg | apply zj | refine zf rfl fun K E hK hE => ?_ | (refine za fun κ η => ?_; simp only [go_sem, simprocAttr, hd2, Int.toNat_natCast, hfd, hmd, Int.natCast_one, show (⟨#[49]⟩ : ByteArray).size = 1 from rfl]; (repeat refine ⟨by omega, ?_⟩); refine η _ ?_; clear η κ) | (refine zd (hK _ ?_); clear hE hK E K) | apply zb | refine zh true rfl (fun _ => ?_) (fun h => (by cases h)) | apply zq | apply zi | apply zs
    exact ⟨n - (j + 1), by omega, j + 1, rfl, by omega, _, zp rfl ⟨rfl, rfl, rfl, rfl, by rw [hps]; rfl, by rw [hon]; rfl, congrArg (fun z : Int => A.t (.i .i64 z)) (by omega), trivial⟩ trivial⟩
  obtain rfl : j = n := by omega
  have hd2 : ((0 : Int) ≤ (j : Int) - 1 - j) = False := eq_false (by omega)
  have hmo : (((za3 k j j : Nat) : Int).tmod 2) = ((za3 k j j % 2 : Nat) : Int) := rfl
  by_cases cw : za3 k j j % 2 = want
  ·rw [if_pos cw] at hst
   have cw' : (((za3 k j j % 2 : Nat) : Int) = want) = True := eq_true (by omega)
   rcases hy with ⟨y0, rfl⟩ | ⟨q', rfl, hr2⟩
   ·rw [y0] at hst
    repeat' first | apply zg | refine zf rfl fun K E hK hE => ?_ | (refine za fun κ η => ?_; simp only [go_sem, simprocAttr, hd2, hmo, cw']; (repeat refine ⟨by omega, ?_⟩); refine η _ ?_; clear η κ) | (refine zd (hK _ ?_); clear hE hK E K) | apply zb | refine zh true rfl (fun _ => ?_) (fun h => (by cases h)) | refine zh false rfl (fun h => (by cases h)) fun _ => ?_ | apply zq | apply zt | apply zu | apply zw | apply zx | apply zs
    exact ⟨M - (k + 1), by omega, k + 1, rfl, by omega, _, _, _, zp rfl ⟨rfl, rfl, rfl, rfl, trivial⟩ trivial, .inr ⟨_, rfl, by rw [hst]; rfl⟩⟩
   ·repeat' first | apply zg | refine zf rfl fun K E hK hE => ?_ | (refine za fun κ η => ?_; simp only [go_sem, simprocAttr, hd2, hmo, cw', hr2]; (repeat refine ⟨by omega, ?_⟩); refine η _ ?_; clear η κ) | (refine zd (hK _ ?_); clear hE hK E K) | apply zb | refine zh true rfl (fun _ => ?_) (fun h => (by cases h)) | refine zh false rfl (fun h => (by cases h)) fun _ => ?_ | apply zq | apply zt | apply zu | apply zw | apply zx | apply zs
    exact ⟨M - (k + 1), by omega, k + 1, rfl, by omega, _, _, _, zp rfl ⟨rfl, rfl, rfl, rfl, trivial⟩ trivial, .inr ⟨_, rfl, by rw [hst]; rfl⟩⟩
  ·rw [if_neg cw, List.append_nil] at hst
   have cw' : (((za3 k j j % 2 : Nat) : Int) = want) = False := eq_false (by omega)
   repeat' first | apply zg | refine zf rfl fun K E hK hE => ?_ | (refine za fun κ η => ?_; simp only [go_sem, simprocAttr, hd2, hmo, cw']; (repeat refine ⟨by omega, ?_⟩); refine η _ ?_; clear η κ) | (refine zd (hK _ ?_); clear hE hK E K) | apply zb | refine zh false rfl (fun h => (by cases h)) fun _ => ?_ | apply zq | apply zi | apply zt | apply zu | apply zw | apply zx | apply zs
   exact ⟨M - (k + 1), by omega, k + 1, rfl, by omega, _, _, _, zp rfl ⟨rfl, rfl, rfl, rfl, trivial⟩ trivial, by rw [hst]; exact hy⟩
 obtain rfl : k = M := by omega
 rcases hy with ⟨y0, rfl⟩ | ⟨q', rfl, hr2⟩
 ·rw [y0]
  repeat' first | apply zg | refine zf rfl fun K E hK hE => ?_ | (refine za fun κ η => ?_; simp only [go_sem, simprocAttr, Int.toNat_natCast, Int.one_mul, hpow, Int.lt_irrefl]; (repeat refine ⟨by omega, ?_⟩); refine η _ ?_; clear η κ) | (refine zd (hK _ ?_); clear hE hK E K) | apply zb | refine zh false rfl (fun h => (by cases h)) fun _ => ?_ | apply zt | apply zk | apply zu | apply zw | apply zx | (apply zm; apply zn; simp only [go_sem, simprocAttr, Int.toNat_natCast, Int.one_mul, hpow, Int.lt_irrefl])
 ·repeat' first | apply zg | refine zf rfl fun K E hK hE => ?_ | (refine za fun κ η => ?_; simp only [go_sem, simprocAttr, Int.toNat_natCast, Int.one_mul, hpow, Int.lt_irrefl, hr2]; (repeat refine ⟨by omega, ?_⟩); refine η _ ?_; clear η κ) | (refine zd (hK _ ?_); clear hE hK E K) | apply zb | refine zh false rfl (fun h => (by cases h)) fun _ => ?_ | apply zt | apply zk | apply zu | apply zw | apply zx | (apply zm; apply zn; simp only [go_sem, simprocAttr, Int.toNat_natCast, Int.one_mul, hpow, Int.lt_irrefl, hr2])
end Go.Proofs.YtbhoeanfnbkenaaGreatDoor
namespace Go.Proofs.YtbhoeanfnbkenaaGreatDoor
open Go.RowKit
set_option maxRecDepth 100000
set_option linter.unusedSimpArgs false
variable (Hy : World → Prop)
attribute [local irreducible] zU zY cwp z1 z6 lpQ z8 asQ bdQ bdY zab zac zad zaa
def zbN (op : Int) (n : Nat) : List Row × Bool :=
 if op = 0 then ([], false) else if op = 1 then ([[]], false) else if op = 2 then ([[49]], false) else if op = 3 then ([[48]], false)
 else if op = 4 then ([zaJ 49 n], false) else if op = 5 then ([zaJ 49 n], true) else if op = 6 then ([zaJ 48 n], true) else if op = 7 then ([zaJ 48 n], false)
 else if op = 8 then (zaK n 1 (2 ^ n), false) else (zaK n 0 (2 ^ n), false)
set_option maxHeartbeats 4000000 in
theorem zm3 (op : Int) (n : Nat) (hop : opB op = true) (h10 : op ≠ 10) (hn : loF op ≤ n ∧ (n : Int) ≤ hiF op) : Ct Tryz.prog Hy 49 [.i .i64 op, .i .i64 n] [.sl (rR (zbN op n).1), .b (zbN op n).2, .b true] := by
 have ho := of_decide_eq_true hop
 have hcase : op = 0 ∨ op = 1 ∨ op = 2 ∨ op = 3 ∨ op = 4 ∨ op = 5 ∨ op = 6 ∨ op = 7 ∨ op = 8 ∨ op = 9 := by omega
 rcases hcase with rfl | rfl | rfl | rfl | rfl | rfl | rfl | rfl | rfl | rfl
 ·have hn : (0 : Int) ≤ n ∧ (n : Int) ≤ 0 := hn
  obtain rfl : n = 0 := by omega
  refine zI (cls := _root_.id) zB zD Tryz.func49 rfl (by decide) (Nat.le_of_ble_eq_true rfl) ?_
  rw [show Tryz.f49.ntmps = 85 from rfl, zC]
  simp only [List.zipIdx_cons, List.zipIdx_nil, List.map_cons, List.map_nil, Nat.reduceAdd]
  repeat' first | apply zg | apply zj | refine zf rfl fun K E hK hE => ?_ | (refine za fun κ η => ?_; simp only [go_sem, simprocAttr, Int.natCast_zero, Int.reduceEq]; refine η _ ?_; clear η κ) | (refine zd (hK _ ?_); clear hE hK E K) | apply zb | refine zh true rfl (fun _ => ?_) (fun h => (by cases h)) | apply zk | apply zy | apply zJ | (apply zm; apply zn; simp only [go_sem, simprocAttr, Int.natCast_zero, Int.reduceEq])
  rfl
 ·have hn : (0 : Int) ≤ n ∧ (n : Int) ≤ 0 := hn
  obtain rfl : n = 0 := by omega
  refine zI (cls := _root_.id) zB zD Tryz.func49 rfl (by decide) (Nat.le_of_ble_eq_true rfl) ?_
  rw [show Tryz.f49.ntmps = 85 from rfl, zC]
  simp only [List.zipIdx_cons, List.zipIdx_nil, List.map_cons, List.map_nil, Nat.reduceAdd]
  repeat' first | apply zg | apply zj | refine zf rfl fun K E hK hE => ?_ | (refine za fun κ η => ?_; simp only [go_sem, simprocAttr, Int.natCast_zero, Int.reduceEq]; refine η _ ?_; clear η κ) | (refine zd (hK _ ?_); clear hE hK E K) | apply zb | refine zh true rfl (fun _ => ?_) (fun h => (by cases h)) | refine zh false rfl (fun h => (by cases h)) fun _ => ?_ | apply zk | apply zy | apply zJ | (apply zm; apply zn; simp only [go_sem, simprocAttr, Int.natCast_zero, Int.reduceEq])
  rfl
 ·have hn : (1 : Int) ≤ n ∧ (n : Int) ≤ 1 := hn
  obtain rfl : n = 1 := by omega
  refine zI (cls := _root_.id) zB zD Tryz.func49 rfl (by decide) (Nat.le_of_ble_eq_true rfl) ?_
  rw [show Tryz.f49.ntmps = 85 from rfl, zC]
  simp only [List.zipIdx_cons, List.zipIdx_nil, List.map_cons, List.map_nil, Nat.reduceAdd]
  repeat' first | apply zg | apply zj | refine zf rfl fun K E hK hE => ?_ | (refine za fun κ η => ?_; simp only [go_sem, simprocAttr, Int.natCast_one, Int.reduceEq]; refine η _ ?_; clear η κ) | (refine zd (hK _ ?_); clear hE hK E K) | apply zb | refine zh true rfl (fun _ => ?_) (fun h => (by cases h)) | refine zh false rfl (fun h => (by cases h)) fun _ => ?_ | apply zk | apply zy | apply zJ | (apply zm; apply zn; simp only [go_sem, simprocAttr, Int.natCast_one, Int.reduceEq])
  rfl
 ·have hn : (1 : Int) ≤ n ∧ (n : Int) ≤ 1 := hn
  obtain rfl : n = 1 := by omega
  refine zI (cls := _root_.id) zB zD Tryz.func49 rfl (by decide) (Nat.le_of_ble_eq_true rfl) ?_
  rw [show Tryz.f49.ntmps = 85 from rfl, zC]
  simp only [List.zipIdx_cons, List.zipIdx_nil, List.map_cons, List.map_nil, Nat.reduceAdd]
  repeat' first | apply zg | apply zj | refine zf rfl fun K E hK hE => ?_ | (refine za fun κ η => ?_; simp only [go_sem, simprocAttr, Int.natCast_one, Int.reduceEq]; refine η _ ?_; clear η κ) | (refine zd (hK _ ?_); clear hE hK E K) | apply zb | refine zh true rfl (fun _ => ?_) (fun h => (by cases h)) | refine zh false rfl (fun h => (by cases h)) fun _ => ?_ | apply zk | apply zy | apply zJ | (apply zm; apply zn; simp only [go_sem, simprocAttr, Int.natCast_one, Int.reduceEq])
  rfl
 ·have hn : (2 : Int) ≤ n ∧ (n : Int) ≤ 8 := hn
  have hc := zeN Hy 49 n (by omega)
  have e2 := eq_true hn.1
  have e8 := eq_true hn.2
  rw [show zbN 4 n = ([zaJ 49 n], false) from rfl]
  refine zI (cls := _root_.id) zB zD Tryz.func49 rfl (by decide) (Nat.le_of_ble_eq_true rfl) ?_
  rw [show Tryz.f49.ntmps = 85 from rfl, zC]
  simp only [List.zipIdx_cons, List.zipIdx_nil, List.map_cons, List.map_nil, Nat.reduceAdd, rR, List.map_cons, List.map_nil]
  repeat' first | apply zg | apply zj | refine zf rfl fun K E hK hE => ?_ | (refine za fun κ η => ?_; simp only [go_sem, simprocAttr, Int.reduceEq, e2, e8]; refine η _ ?_; clear η κ) | (refine zd (hK _ ?_); clear hE hK E K) | apply zb | refine zh true rfl (fun _ => ?_) (fun h => (by cases h)) | refine zh false rfl (fun h => (by cases h)) fun _ => ?_
  refine za fun κ η => ?_; simp only [go_sem, simprocAttr]; refine ⟨_, hc, ?_⟩; simp only [go_sem, simprocAttr]; refine η _ ?_; clear η κ
  repeat' first | ((first | refine za fun κ η => ?_ | refine zo rfl fun κ η => ?_); simp only [go_sem, simprocAttr, Int.reduceEq, e2, e8]; refine η _ ?_; clear η κ) | (refine zd (hK _ ?_); clear hE hK E K) | apply zb | apply zk | apply zy | apply zJ | (apply zm; apply zn; simp only [go_sem, simprocAttr, Int.reduceEq, e2, e8])
 ·have hn : (2 : Int) ≤ n ∧ (n : Int) ≤ 8 := hn
  have hc := zeN Hy 49 n (by omega)
  have e2 := eq_true hn.1
  have e8 := eq_true hn.2
  rw [show zbN 5 n = ([zaJ 49 n], true) from rfl]
  refine zI (cls := _root_.id) zB zD Tryz.func49 rfl (by decide) (Nat.le_of_ble_eq_true rfl) ?_
  rw [show Tryz.f49.ntmps = 85 from rfl, zC]
  simp only [List.zipIdx_cons, List.zipIdx_nil, List.map_cons, List.map_nil, Nat.reduceAdd, rR, List.map_cons, List.map_nil]
  repeat' first | apply zg | apply zj | refine zf rfl fun K E hK hE => ?_ | (refine za fun κ η => ?_; simp only [go_sem, simprocAttr, Int.reduceEq, e2, e8]; refine η _ ?_; clear η κ) | (refine zd (hK _ ?_); clear hE hK E K) | apply zb | refine zh true rfl (fun _ => ?_) (fun h => (by cases h)) | refine zh false rfl (fun h => (by cases h)) fun _ => ?_
  refine za fun κ η => ?_; simp only [go_sem, simprocAttr]; refine ⟨_, hc, ?_⟩; simp only [go_sem, simprocAttr]; refine η _ ?_; clear η κ
  repeat' first | ((first | refine za fun κ η => ?_ | refine zo rfl fun κ η => ?_); simp only [go_sem, simprocAttr, Int.reduceEq, e2, e8]; refine η _ ?_; clear η κ) | (refine zd (hK _ ?_); clear hE hK E K) | apply zb | apply zk | apply zy | apply zJ | (apply zm; apply zn; simp only [go_sem, simprocAttr, Int.reduceEq, e2, e8])
 ·have hn : (2 : Int) ≤ n ∧ (n : Int) ≤ 8 := hn
  have hc := zeN Hy 48 n (by omega)
  have e2 := eq_true hn.1
  have e8 := eq_true hn.2
  rw [show zbN 6 n = ([zaJ 48 n], true) from rfl]
  refine zI (cls := _root_.id) zB zD Tryz.func49 rfl (by decide) (Nat.le_of_ble_eq_true rfl) ?_
  rw [show Tryz.f49.ntmps = 85 from rfl, zC]
  simp only [List.zipIdx_cons, List.zipIdx_nil, List.map_cons, List.map_nil, Nat.reduceAdd, rR, List.map_cons, List.map_nil]
  repeat' first | apply zg | apply zj | refine zf rfl fun K E hK hE => ?_ | (refine za fun κ η => ?_; simp only [go_sem, simprocAttr, Int.reduceEq, e2, e8]; refine η _ ?_; clear η κ) | (refine zd (hK _ ?_); clear hE hK E K) | apply zb | refine zh true rfl (fun _ => ?_) (fun h => (by cases h)) | refine zh false rfl (fun h => (by cases h)) fun _ => ?_
  refine za fun κ η => ?_; simp only [go_sem, simprocAttr]; refine ⟨_, hc, ?_⟩; simp only [go_sem, simprocAttr]; refine η _ ?_; clear η κ
  repeat' first | ((first | refine za fun κ η => ?_ | refine zo rfl fun κ η => ?_); simp only [go_sem, simprocAttr, Int.reduceEq, e2, e8]; refine η _ ?_; clear η κ) | (refine zd (hK _ ?_); clear hE hK E K) | apply zb | apply zk | apply zy | apply zJ | (apply zm; apply zn; simp only [go_sem, simprocAttr, Int.reduceEq, e2, e8])
 ·have hn : (2 : Int) ≤ n ∧ (n : Int) ≤ 8 := hn
  have hc := zeN Hy 48 n (by omega)
  have e2 := eq_true hn.1
  have e8 := eq_true hn.2
  rw [show zbN 7 n = ([zaJ 48 n], false) from rfl]
  refine zI (cls := _root_.id) zB zD Tryz.func49 rfl (by decide) (Nat.le_of_ble_eq_true rfl) ?_
  rw [show Tryz.f49.ntmps = 85 from rfl, zC]
  simp only [List.zipIdx_cons, List.zipIdx_nil, List.map_cons, List.map_nil, Nat.reduceAdd, rR, List.map_cons, List.map_nil]
  repeat' first | apply zg | apply zj | refine zf rfl fun K E hK hE => ?_ | (refine za fun κ η => ?_; simp only [go_sem, simprocAttr, Int.reduceEq, e2, e8]; refine η _ ?_; clear η κ) | (refine zd (hK _ ?_); clear hE hK E K) | apply zb | refine zh true rfl (fun _ => ?_) (fun h => (by cases h)) | refine zh false rfl (fun h => (by cases h)) fun _ => ?_
  refine za fun κ η => ?_; simp only [go_sem, simprocAttr]; refine ⟨_, hc, ?_⟩; simp only [go_sem, simprocAttr]; refine η _ ?_; clear η κ
  repeat' first | ((first | refine za fun κ η => ?_ | refine zo rfl fun κ η => ?_); simp only [go_sem, simprocAttr, Int.reduceEq, e2, e8]; refine η _ ?_; clear η κ) | (refine zd (hK _ ?_); clear hE hK E K) | apply zb | apply zk | apply zy | apply zJ | (apply zm; apply zn; simp only [go_sem, simprocAttr, Int.reduceEq, e2, e8])
 ·have hn : (2 : Int) ≤ n ∧ (n : Int) ≤ 8 := hn
  have hc := zix Hy n 1 (by omega)
  have e2 : ((n : Int) < 2) = False := eq_false (by omega)
  have e8 : (8 < (n : Int)) = False := eq_false (by omega)
  rw [show zbN 8 n = (zaK n 1 (2 ^ n), false) from rfl]
  generalize rR (zaK n 1 (2 ^ n)) = rws at *
  refine zI (cls := _root_.id) zB zD Tryz.func49 rfl (by decide) (Nat.le_of_ble_eq_true rfl) ?_
  rw [show Tryz.f49.ntmps = 85 from rfl, zC]
  simp only [List.zipIdx_cons, List.zipIdx_nil, List.map_cons, List.map_nil, Nat.reduceAdd]
  repeat' first | apply zg | apply zj | refine zf rfl fun K E hK hE => ?_ | ((first | refine za fun κ η => ?_ | refine zo rfl fun κ η => ?_); simp only [go_sem, simprocAttr, Int.reduceEq, e2, e8]; refine η _ ?_; clear η κ) | (refine zd (hK _ ?_); clear hE hK E K) | apply zb | refine zh true rfl (fun _ => ?_) (fun h => (by cases h)) | refine zh false rfl (fun h => (by cases h)) fun _ => ?_ | apply zq | apply zi
  refine za fun κ η => ?_; simp only [go_sem, simprocAttr]; refine ⟨_, hc, ?_⟩; simp only [go_sem, simprocAttr]; refine η _ ?_; clear η κ
  repeat' first | (refine za fun κ η => ?_; simp only [go_sem, simprocAttr, Int.reduceEq, e2, e8]; refine η _ ?_; clear η κ) | (refine zd (hK _ ?_); clear hE hK E K) | apply zb | apply zk | apply zy | (apply zm; apply zn; simp only [go_sem, simprocAttr, Int.reduceEq, e2, e8])
 ·have hn : (2 : Int) ≤ n ∧ (n : Int) ≤ 8 := hn
  have hc := zix Hy n 0 (by omega)
  have e2 : ((n : Int) < 2) = False := eq_false (by omega)
  have e8 : (8 < (n : Int)) = False := eq_false (by omega)
  rw [show zbN 9 n = (zaK n 0 (2 ^ n), false) from rfl]
  generalize rR (zaK n 0 (2 ^ n)) = rws at *
  refine zI (cls := _root_.id) zB zD Tryz.func49 rfl (by decide) (Nat.le_of_ble_eq_true rfl) ?_
  rw [show Tryz.f49.ntmps = 85 from rfl, zC]
  simp only [List.zipIdx_cons, List.zipIdx_nil, List.map_cons, List.map_nil, Nat.reduceAdd]
  repeat' first | apply zg | apply zj | refine zf rfl fun K E hK hE => ?_ | ((first | refine za fun κ η => ?_ | refine zo rfl fun κ η => ?_); simp only [go_sem, simprocAttr, Int.reduceEq, e2, e8]; refine η _ ?_; clear η κ) | (refine zd (hK _ ?_); clear hE hK E K) | apply zb | refine zh false rfl (fun h => (by cases h)) fun _ => ?_ | apply zq | apply zi
  refine za fun κ η => ?_; simp only [go_sem, simprocAttr]; refine ⟨_, hc, ?_⟩; simp only [go_sem, simprocAttr]; refine η _ ?_; clear η κ
  repeat' first | (refine za fun κ η => ?_; simp only [go_sem, simprocAttr, Int.reduceEq, e2, e8]; refine η _ ?_; clear η κ) | (refine zd (hK _ ?_); clear hE hK E K) | apply zb | apply zk | (apply zm; apply zn; simp only [go_sem, simprocAttr, Int.reduceEq, e2, e8])
set_option maxHeartbeats 4000000 in
theorem zm4 (r : Row) (ins : List Bool) (hl : ins.length ≤ r.length) (hr : r.length ≤ 1000000) : Ct Tryz.prog Hy 50 [.s (mk r), bL ins] [.b (zan r ins)] := by
 have hz : (List.zipWith zaP r ins).length = ins.length := by rw [List.length_zipWith]; omega
 refine zI (cls := _root_.id) zB zD Tryz.func50 rfl (by decide) (Nat.le_of_ble_eq_true rfl) ?_
 rw [show Tryz.f50.ntmps = 35 from rfl, zC]
 simp only [List.zipIdx_cons, List.zipIdx_nil, List.map_cons, List.map_nil, Nat.reduceAdd, bL]
 repeat' first | apply zg | apply zj | refine zf rfl fun K E hK hE => ?_ | (refine za fun κ η => ?_; simp only [go_sem, simprocAttr]; refine η _ ?_; clear η κ) | (refine zd (hK _ ?_); clear hE hK E K) | apply zb
 refine zW (fun m s' => ∃ k : Nat, m = ins.length - k ∧ k ≤ ins.length ∧ (∀ (j : Nat) y, j < k → (List.zipWith zaP r ins)[j]? = some y → y = true) ∧ ∃ F G0, s' = nf 35 F G0 [(0, .t (.s (mk r))), (1, .t (bL ins)), (5, .t (.i .i64 k))] []) (ins.length) ?_ ?_
 ·exact ⟨0, by omega, by omega, fun j x hj => absurd hj (Nat.not_lt_zero j), _, _, zp rfl ⟨rfl, rfl, rfl, trivial⟩ trivial⟩
 rintro m s' ⟨k, rfl, hk, hno, F, G0, rfl⟩
 simp only [bL]
 repeat' first | apply zg | refine zf rfl fun K E hK hE => ?_ | (refine za fun κ η => ?_; simp only [go_sem, simprocAttr]; refine η _ ?_; clear η κ) | (refine zd (hK _ ?_); clear hE hK E K) | apply zb
 refine zh _ rfl (fun hq => ?_) (fun hq => ?_)
 ·simp only [decide_eq_true_eq] at hq
  obtain ⟨v, hv⟩ : ∃ v, ins[k]? = some v := ⟨_, List.getElem?_eq_getElem (by omega)⟩
  obtain ⟨c, hc⟩ : ∃ c, r[k]? = some c := ⟨_, List.getElem?_eq_getElem (by omega)⟩
  have hw : (List.zipWith zaP r ins)[k]? = some (zaP c v) := by rw [List.getElem?_zipWith, hc, hv]
  have hgo : zaP c v = true → ∀ (j : Nat) y, j < k + 1 → (List.zipWith zaP r ins)[j]? = some y → y = true := fun h j y hj hy => by
   rcases Nat.lt_or_eq_of_le (Nat.lt_succ_iff.1 hj) with h1 | rfl
   ·exact hno j y h1 hy
   ·rw [hw] at hy; cases hy; exact h
  have hbad : zaP c v = false → zan r ins = false := fun h => by
   unfold zan
   rw [List.all_eq_false]
   exact ⟨_, List.mem_of_getElem? hw, by rw [h]; decide⟩
  by_cases c9 : c = 49
  ·have h9 : ((c.toNat : Int) = 49) = True := by rw [c49]; exact eq_true c9
   have h8 : ((c.toNat : Int) = 48) = False := by rw [c48, c9]; decide
   cases v with
   | true =>
    repeat' first | apply zg | apply zj | refine zf rfl fun K E hK hE => ?_ | ((first | refine za fun κ η => ?_ | refine zo rfl fun κ η => ?_); simp only [go_sem, simprocAttr, hv, zaZ, hc, Int.toNat_natCast, h9, h8]; (repeat refine ⟨by omega, ?_⟩); refine η _ ?_; clear η κ) | (refine zd (hK _ ?_); clear hE hK E K) | apply zb | apply zi
    refine zh _ rfl (fun hq => (by cases hq)) (fun hq => ?_)
    repeat' first | refine zf rfl fun K E hK hE => ?_ | (refine za fun κ η => ?_; simp only [go_sem, simprocAttr]; (repeat refine ⟨by omega, ?_⟩); refine η _ ?_; clear η κ) | (refine zd (hK _ ?_); clear hE hK E K) | apply zb | apply zq | apply zi | apply zs
    refine ⟨ins.length - (k + 1), by omega, k + 1, rfl, by omega, hgo (by rw [c9]; rfl), _, _, zp rfl ⟨rfl, rfl, rfl, trivial⟩ trivial⟩
   | false =>
    repeat' first | apply zg | apply zj | refine zf rfl fun K E hK hE => ?_ | ((first | refine za fun κ η => ?_ | refine zo rfl fun κ η => ?_); simp only [go_sem, simprocAttr, hv, zaZ, hc, Int.toNat_natCast, h9, h8]; (repeat refine ⟨by omega, ?_⟩); refine η _ ?_; clear η κ) | (refine zd (hK _ ?_); clear hE hK E K) | apply zb | apply zi
    refine zh _ rfl (fun hq => ?_) (fun hq => (by cases hq))
    repeat' first | apply zg | refine zf rfl fun K E hK hE => ?_ | (refine za fun κ η => ?_; simp only [go_sem, simprocAttr]; refine η _ ?_; clear η κ) | (refine zd (hK _ ?_); clear hE hK E K) | apply zb | apply zk | apply zy | apply zJ | apply zL | (apply zm; apply zn; simp only [go_sem, simprocAttr])
    rw [hbad (by rw [c9]; rfl)]
  have h9 : ((c.toNat : Int) = 49) = False := by rw [c49]; exact eq_false c9
  by_cases c8 : c = 48
  ·have h8 : ((c.toNat : Int) = 48) = True := by rw [c48]; exact eq_true c8
   cases v with
   | true =>
    repeat' first | apply zg | apply zj | refine zf rfl fun K E hK hE => ?_ | ((first | refine za fun κ η => ?_ | refine zo rfl fun κ η => ?_); simp only [go_sem, simprocAttr, hv, zaZ, hc, Int.toNat_natCast, h9, h8]; (repeat refine ⟨by omega, ?_⟩); refine η _ ?_; clear η κ) | (refine zd (hK _ ?_); clear hE hK E K) | apply zb | apply zi
    refine zh _ rfl (fun hq => ?_) (fun hq => (by cases hq))
    repeat' first | apply zg | refine zf rfl fun K E hK hE => ?_ | (refine za fun κ η => ?_; simp only [go_sem, simprocAttr]; refine η _ ?_; clear η κ) | (refine zd (hK _ ?_); clear hE hK E K) | apply zb | apply zk | apply zy | apply zJ | apply zL | (apply zm; apply zn; simp only [go_sem, simprocAttr])
    rw [hbad (by rw [c8]; rfl)]
   | false =>
    repeat' first | apply zg | apply zj | refine zf rfl fun K E hK hE => ?_ | ((first | refine za fun κ η => ?_ | refine zo rfl fun κ η => ?_); simp only [go_sem, simprocAttr, hv, zaZ, hc, Int.toNat_natCast, h9, h8]; (repeat refine ⟨by omega, ?_⟩); refine η _ ?_; clear η κ) | (refine zd (hK _ ?_); clear hE hK E K) | apply zb | apply zi
    refine zh _ rfl (fun hq => (by cases hq)) (fun hq => ?_)
    repeat' first | refine zf rfl fun K E hK hE => ?_ | (refine za fun κ η => ?_; simp only [go_sem, simprocAttr]; (repeat refine ⟨by omega, ?_⟩); refine η _ ?_; clear η κ) | (refine zd (hK _ ?_); clear hE hK E K) | apply zb | apply zq | apply zi | apply zs
    refine ⟨ins.length - (k + 1), by omega, k + 1, rfl, by omega, hgo (by rw [c8]; rfl), _, _, zp rfl ⟨rfl, rfl, rfl, trivial⟩ trivial⟩
  ·have h8 : ((c.toNat : Int) = 48) = False := by rw [c48]; exact eq_false c8
   repeat' first | apply zg | apply zj | refine zf rfl fun K E hK hE => ?_ | ((first | refine za fun κ η => ?_ | refine zo rfl fun κ η => ?_); simp only [go_sem, simprocAttr, hv, zaZ, hc, Int.toNat_natCast, h9, h8]; (repeat refine ⟨by omega, ?_⟩); refine η _ ?_; clear η κ) | (refine zd (hK _ ?_); clear hE hK E K) | apply zb | apply zi
   refine zh _ rfl (fun hq => (by cases hq)) (fun hq => ?_)
   repeat' first | refine zf rfl fun K E hK hE => ?_ | (refine za fun κ η => ?_; simp only [go_sem, simprocAttr]; (repeat refine ⟨by omega, ?_⟩); refine η _ ?_; clear η κ) | (refine zd (hK _ ?_); clear hE hK E K) | apply zb | apply zq | apply zi | apply zs
   refine ⟨ins.length - (k + 1), by omega, k + 1, rfl, by omega, hgo (by simp [zaP, c8, c9]), _, _, zp rfl ⟨rfl, rfl, rfl, trivial⟩ trivial⟩
 ·simp only [decide_eq_false_iff_not] at hq
  have hb : zan r ins = true := by
   unfold zan
   rw [List.all_eq_true]
   intro y hy
   obtain ⟨j, hj⟩ := List.getElem?_of_mem hy
   have := (List.getElem?_eq_some_iff.1 hj).1
   exact hno j y (by omega) hj
  repeat' first | apply zg | refine zf rfl fun K E hK hE => ?_ | (refine za fun κ η => ?_; simp only [go_sem, simprocAttr]; refine η _ ?_; clear η κ) | (refine zd (hK _ ?_); clear hE hK E K) | apply zb | apply zt | apply zk | apply zu | apply zw | apply zx | (apply zm; apply zn; simp only [go_sem, simprocAttr])
  rw [hb]
end Go.Proofs.YtbhoeanfnbkenaaGreatDoor
namespace Go.Proofs.YtbhoeanfnbkenaaGreatDoor
open Go.RowKit
set_option maxRecDepth 100000
set_option linter.unusedSimpArgs false
def zbP : List Bool → Nat
 | [] => 0
 | v :: l => (if v = true then 1 else 0) + zbP l
theorem zgq (l : List Bool) : ∀ a : Bool, l.foldl (fun a v => a != v) a = (a != decide (zbP l % 2 = 1)) := by
 induction l with
 | nil => intro a; cases a <;> rfl
 | cons v l ih =>
  intro a
  rw [List.foldl_cons, ih, show zbP (v :: l) = (if v = true then 1 else 0) + zbP l from rfl]
  rcases Nat.mod_two_eq_zero_or_one (zbP l) with h | h
  ·cases v
   ·rw [if_neg (by decide), Nat.zero_add, Bool.bne_false]
   ·rw [if_pos rfl, h, show (1 + zbP l) % 2 = 1 by omega]; cases a <;> rfl
  ·cases v
   ·rw [if_neg (by decide), Nat.zero_add, Bool.bne_false]
   ·rw [if_pos rfl, h, show (1 + zbP l) % 2 = 0 by omega]; cases a <;> rfl
theorem zgr (k m : Nat) : za2 k (m + 1) (m + 1) = sgB k m :: za2 k m m := by
 unfold za2
 rw [List.range_succ_eq_map, List.map_cons, List.map_map]
 refine congr (congrArg _ rfl) (List.map_congr_left fun t _ => ?_)
 show sgB k (m + 1 - 1 - (t + 1)) = sgB k (m - 1 - t)
 rw [show m + 1 - 1 - (t + 1) = m - 1 - t by omega]
theorem zgs (k m : Nat) : ∀ j, za3 k (m + 1) (j + 1) = za1 k m + za3 k m j
 | 0 => by show 0 + za1 k (m + 1 - 1 - 0) = za1 k m + 0; rw [Nat.zero_add]; rfl
 | j + 1 => by
  show za3 k (m + 1) (j + 1) + za1 k (m + 1 - 1 - (j + 1)) = za1 k m + (za3 k m j + za1 k (m - 1 - j))
  rw [zgs k m j, show m + 1 - 1 - (j + 1) = m - 1 - j by omega]
  omega
theorem zjr (v k m i : Nat) (h : i < m) : za1 (2 ^ m * v + k) i = za1 k i := by
 unfold za1
 obtain ⟨d, rfl⟩ : ∃ d, m = i + (d + 1) := ⟨m - i - 1, by omega⟩
 rw [Nat.pow_add, Nat.mul_assoc, Nat.mul_add_div (Nat.two_pow_pos i), Nat.pow_succ, Nat.mul_comm (2 ^ d) 2, Nat.mul_assoc]
 omega
theorem zjs (v k m : Nat) (hv : v ≤ 1) (hk : k < 2 ^ m) : za1 (2 ^ m * v + k) m = v := by
 unfold za1
 rw [Nat.mul_add_div (Nat.two_pow_pos m), Nat.div_eq_of_lt hk]
 omega
theorem zjt (v k m : Nat) : za2 (2 ^ m * v + k) m m = za2 k m m := by
 unfold za2
 refine List.map_congr_left fun t ht => ?_
 have := List.mem_range.1 ht
 unfold sgB
 rw [zjr v k m _ (by omega)]
theorem zgt (k m : Nat) (v : Bool) : zaP (sgB k m) v = true ↔ za1 k m = if v = true then 1 else 0 := by
 unfold sgB
 rcases zfL k m with h | h <;> rw [h] <;> cases v <;> decide
theorem zeb (c : UInt8) (r : Row) (v : Bool) (l : List Bool) : zan (c :: r) (v :: l) = (zaP c v && zan r l) := rfl
theorem zeY (k : Nat) : ∀ l : List Bool, zan (za2 k l.length l.length) l = true → za3 k l.length l.length = zbP l
 | [], _ => rfl
 | v :: l, h => by
  rw [List.length_cons, zgr, zeb, Bool.and_eq_true, zgt] at h
  rw [List.length_cons, zgs, zeY k l h.2, h.1]
  rfl
theorem zgu : ∀ l : List Bool, ∃ k, k < 2 ^ l.length ∧ zan (za2 k l.length l.length) l = true
 | [] => ⟨0, by decide, rfl⟩
 | v :: l => by
  obtain ⟨k, h1, h2⟩ := zgu l
  have hv : (if v = true then 1 else 0) ≤ 1 := by cases v <;> decide
  refine ⟨2 ^ l.length * (if v = true then 1 else 0) + k, ?_, ?_⟩
  ·rw [List.length_cons, Nat.pow_succ]
   have := Nat.mul_le_mul_left (2 ^ l.length) hv
   omega
  ·rw [List.length_cons, zgr, zeb, zjt, h2, Bool.and_true, zgt, zjs _ _ _ hv h1]
theorem zgv (l : List Bool) (w : Nat) : ((zaK l.length w (2 ^ l.length)).any fun r => zan r l) = decide (zbP l % 2 = w) := by
 rw [Bool.eq_iff_iff, List.any_eq_true, decide_eq_true_eq]
 unfold zaK
 constructor
 ·rintro ⟨r, hr, hf⟩
  obtain ⟨k, hk, rfl⟩ := List.mem_map.1 hr
  have := (List.mem_filter.1 hk).2
  rw [decide_eq_true_eq, zeY k l hf] at this
  exact this
 ·intro h
  obtain ⟨k, h1, h2⟩ := zgu l
  exact ⟨_, List.mem_map.2 ⟨k, List.mem_filter.2 ⟨List.mem_range.2 h1, by rw [decide_eq_true_eq, zeY k l h2]; exact h⟩, rfl⟩, h2⟩
theorem zeZ : ∀ l : List Bool, zan (zaJ 49 l.length) l = !decide (false ∈ l)
 | [] => rfl
 | v :: l => by
  show zan (49 :: zaJ 49 l.length) (v :: l) = _
  rw [zeb, zeZ l]
  cases v <;> simp [zaP]
theorem ze0 : ∀ l : List Bool, zan (zaJ 48 l.length) l = !decide (true ∈ l)
 | [] => rfl
 | v :: l => by
  show zan (48 :: zaJ 48 l.length) (v :: l) = _
  rw [zeb, ze0 l]
  cases v <;> simp [zaP]
def zcq (g : Gt) (n : Nat) : List Row × Bool := if g.op = 10 then (g.rows, g.off) else zbN g.op n
def rgV (g : Gt) (ins : List Bool) : Bool := ((zcq g ins.length).1.any fun r => zan r ins) != (zcq g ins.length).2
theorem ze1 (a b : Bool) : (a != b) = (b != a) := by cases a <;> cases b <;> rfl
theorem ze2 {g : Gt} {ins : List Bool} (h : okG g ins = true) : loF g.op ≤ ins.length ∧ (ins.length : Int) ≤ hiF g.op := by
 unfold okG zaM at h
 simp only [Bool.and_eq_true, decide_eq_true_eq] at h
 rw [h.2]
 exact h.1.2.1
theorem zju {g : Gt} {ins : List Bool} (h : okG g ins = true) : rgV g ins = zbp g ins := by
 have har := ze2 h
 have ho := of_decide_eq_true (zcU h).1
 clear h
 obtain ⟨name, op, gi, rows, off⟩ := g
 simp only at har ho
 unfold rgV zbp
 by_cases h10 : op = 10
 ·subst h10
  exact ze1 _ _
 have hcase : op = 0 ∨ op = 1 ∨ op = 2 ∨ op = 3 ∨ op = 4 ∨ op = 5 ∨ op = 6 ∨ op = 7 ∨ op = 8 ∨ op = 9 := by omega
 rcases hcase with rfl | rfl | rfl | rfl | rfl | rfl | rfl | rfl | rfl | rfl
 ·rfl
 ·rfl
 ·have hn : (1 : Int) ≤ ins.length ∧ (ins.length : Int) ≤ 1 := har
  obtain ⟨v, rfl⟩ := List.length_eq_one_iff.1 (show ins.length = 1 by omega)
  cases v <;> rfl
 ·have hn : (1 : Int) ≤ ins.length ∧ (ins.length : Int) ≤ 1 := har
  obtain ⟨v, rfl⟩ := List.length_eq_one_iff.1 (show ins.length = 1 by omega)
  cases v <;> rfl
 ·show ((zan (zaJ 49 ins.length) ins || false) != false) = (false != !decide (false ∈ ins))
  rw [zeZ, Bool.or_false]; exact ze1 _ _
 ·show ((zan (zaJ 49 ins.length) ins || false) != true) = (true != !decide (false ∈ ins))
  rw [zeZ, Bool.or_false]; exact ze1 _ _
 ·show ((zan (zaJ 48 ins.length) ins || false) != true) = (false != decide (true ∈ ins))
  rw [ze0, Bool.or_false]; cases decide (true ∈ ins) <;> rfl
 ·show ((zan (zaJ 48 ins.length) ins || false) != false) = (true != decide (true ∈ ins))
  rw [ze0, Bool.or_false]; cases decide (true ∈ ins) <;> rfl
 ·show ((zaK ins.length 1 (2 ^ ins.length)).any (fun r => zan r ins) != false) = (false != zb4 ins)
  rw [zgv, show zb4 ins = _ from zgq ins false]; cases decide (zbP ins % 2 = 1) <;> rfl
 ·show ((zaK ins.length 0 (2 ^ ins.length)).any (fun r => zan r ins) != false) = (true != zb4 ins)
  rw [zgv, show zb4 ins = _ from zgq ins false]
  rcases Nat.mod_two_eq_zero_or_one (zbP ins) with h | h <;> rw [h] <;> rfl
end Go.Proofs.YtbhoeanfnbkenaaGreatDoor
namespace Go.Proofs.YtbhoeanfnbkenaaGreatDoor
open Go.RowKit
set_option maxRecDepth 100000
set_option linter.unusedSimpArgs false
variable (Hy : World → Prop)
attribute [local irreducible] zU zY cwp z1 z6 lpQ z8 asQ bdQ bdY zab zac zad zaa
theorem zng {n w m : Nat} {r : Row} (h : r ∈ zaK n w m) : r.length = n := by
 unfold zaK at h
 obtain ⟨k, _, rfl⟩ := List.mem_map.1 h
 exact ziv _ _ _
theorem znh {g : Gt} {ins : List Bool} (h : okG g ins = true) (hrl : g.rows.length ≤ 1000000) : (zcq g ins.length).1.length ≤ 1000000 ∧ ∀ r ∈ (zcq g ins.length).1, r.length = ins.length := by
 have har := ze2 h
 have ho := of_decide_eq_true (zcU h).1
 by_cases h10 : g.op = 10
 ·unfold zcq
  rw [if_pos h10]
  exact ⟨hrl, ((zcU h).2.2 h10).2⟩
 unfold zcq
 rw [if_neg h10]
 generalize g.op = op at *
 have hcase : op = 0 ∨ op = 1 ∨ op = 2 ∨ op = 3 ∨ op = 4 ∨ op = 5 ∨ op = 6 ∨ op = 7 ∨ op = 8 ∨ op = 9 := by omega
 have one : ∀ r0 : Row, r0.length = ins.length → [r0].length ≤ 1000000 ∧ ∀ r ∈ [r0], r.length = ins.length := fun r0 h0 => ⟨by show 1 ≤ 1000000; decide, fun r hr => by rw [List.mem_singleton.1 hr]; exact h0⟩
 have odd : ∀ w, ins.length ≤ 8 → (zaK ins.length w (2 ^ ins.length)).length ≤ 1000000 ∧ ∀ r ∈ zaK ins.length w (2 ^ ins.length), r.length = ins.length := fun w h8 => ⟨by
  have h1 := ziw ins.length w (2 ^ ins.length)
  have h2 : 2 ^ ins.length ≤ 2 ^ 8 := Nat.pow_le_pow_right (by decide) h8
  rw [zf0] at h1
  omega, fun r hr => zng hr⟩
 rcases hcase with rfl | rfl | rfl | rfl | rfl | rfl | rfl | rfl | rfl | rfl
 ·exact ⟨by show 0 ≤ 1000000; decide, fun r hr => by cases hr⟩
 ·have hn : (0 : Int) ≤ ins.length ∧ (ins.length : Int) ≤ 0 := har
  exact one [] (by show 0 = _; omega)
 ·have hn : (1 : Int) ≤ ins.length ∧ (ins.length : Int) ≤ 1 := har
  exact one [49] (by show 1 = _; omega)
 ·have hn : (1 : Int) ≤ ins.length ∧ (ins.length : Int) ≤ 1 := har
  exact one [48] (by show 1 = _; omega)
 ·exact one _ (List.length_replicate ..)
 ·exact one _ (List.length_replicate ..)
 ·exact one _ (List.length_replicate ..)
 ·exact one _ (List.length_replicate ..)
 ·have hn : (2 : Int) ≤ ins.length ∧ (ins.length : Int) ≤ 8 := har
  exact odd 1 (by omega)
 ·have hn : (2 : Int) ≤ ins.length ∧ (ins.length : Int) ≤ 8 := har
  exact odd 0 (by omega)
theorem zi4 {α : Type} {p : α → Bool} {l : List α} {k : Nat} {x : α} (h : l[k]? = some x) : (l.take (k + 1)).any p = ((l.take k).any p || p x) := by
 rw [List.take_add_one, h, List.any_append]
 show (_ || (p x || false)) = _
 rw [Bool.or_false]
set_option maxHeartbeats 8000000 in
theorem zni (g : Gt) (ins : List Bool) (hi : g.ins.length ≤ 1000000) (hl : ins.length ≤ 1000000) (hrl : g.rows.length ≤ 1000000) (hz : ∀ r ∈ g.rows, r.length ≤ 140737488355328) :
  Ct Tryz.prog Hy 31 [.ag [.s g.name, .i .i64 g.op, .sl (sR g.ins), .sl (rR g.rows), .b g.off], bL ins] [.b (okG g ins && zbp g ins), .i .i64 (if okG g ins = true then 0 else 1)] := by
 have hg := zi5 Hy g hi (by omega) hz
 cases hok : okG g ins with
 | false =>
  rw [Bool.false_and, if_neg (by decide)]
  unfold okG at hok
  cases hb : zaM g with
  | false =>
   rw [hb] at hg
   refine zI (cls := _root_.id) zB zD Tryz.func31 rfl (by decide) (Nat.le_of_ble_eq_true rfl) ?_
   rw [show Tryz.f31.ntmps = 60 from rfl, zC]
   simp only [List.zipIdx_cons, List.zipIdx_nil, List.map_cons, List.map_nil, Nat.reduceAdd, bL]
   repeat' first | apply zg | refine zf rfl fun K E hK hE => ?_ | (refine za fun κ η => ?_; simp only [go_sem, simprocAttr]; refine η _ ?_; clear η κ) | (refine zd (hK _ ?_); clear hE hK E K) | apply zb
   refine za fun κ η => ?_; simp only [go_sem, simprocAttr]; refine ⟨_, hg, ?_⟩; simp only [go_sem, simprocAttr]; refine η _ ?_; clear η κ
   repeat' first | apply zg | refine zf rfl fun K E hK hE => ?_ | ((first | refine za fun κ η => ?_ | refine zo rfl fun κ η => ?_); simp only [go_sem, simprocAttr]; refine η _ ?_; clear η κ) | (refine zd (hK _ ?_); clear hE hK E K) | apply zb | refine zh true rfl (fun _ => ?_) (fun h => (by cases h)) | apply zk | apply zy | (apply zm; apply zn; simp only [go_sem, simprocAttr])
  | true =>
   rw [hb] at hg hok
   have hne : ¬ ins.length = g.ins.length := by simpa using hok
   have hne' : ((ins.length : Int) = g.ins.length) = False := eq_false (by omega)
   refine zI (cls := _root_.id) zB zD Tryz.func31 rfl (by decide) (Nat.le_of_ble_eq_true rfl) ?_
   rw [show Tryz.f31.ntmps = 60 from rfl, zC]
   simp only [List.zipIdx_cons, List.zipIdx_nil, List.map_cons, List.map_nil, Nat.reduceAdd, bL]
   repeat' first | apply zg | refine zf rfl fun K E hK hE => ?_ | (refine za fun κ η => ?_; simp only [go_sem, simprocAttr]; refine η _ ?_; clear η κ) | (refine zd (hK _ ?_); clear hE hK E K) | apply zb
   refine za fun κ η => ?_; simp only [go_sem, simprocAttr]; refine ⟨_, hg, ?_⟩; simp only [go_sem, simprocAttr]; refine η _ ?_; clear η κ
   repeat' first | apply zg | refine zf rfl fun K E hK hE => ?_ | ((first | refine za fun κ η => ?_ | refine zo rfl fun κ η => ?_); simp only [go_sem, simprocAttr, hne']; (repeat refine ⟨by omega, ?_⟩); refine η _ ?_; clear η κ) | (refine zd (hK _ ?_); clear hE hK E K) | apply zb | refine zh true rfl (fun _ => ?_) (fun h => (by cases h)) | apply zk | apply zy | (apply zm; apply zn; simp only [go_sem, simprocAttr, hne'])
 | true =>
  rw [Bool.true_and, if_pos rfl, ← zju hok]
  have hb : zaM g = true := by unfold okG at hok; rw [Bool.and_eq_true] at hok; exact hok.1
  rw [hb] at hg
  have har := ze2 hok
  have hop := (zcU hok).1
  have hle' : ((ins.length : Int) = g.ins.length) = True := eq_true (by have := (zcU hok).2.1; omega)
  obtain ⟨hRl, hRr⟩ := znh hok hrl
  have hft := fun (r : Row) (h : r.length = ins.length) => zm4 Hy r ins (by omega) (by omega)
  clear hok hb hz
  unfold rgV
  by_cases h10 : g.op = 10
  ·rw [show zcq g ins.length = (g.rows, g.off) from if_pos h10] at hRl hRr ⊢
   have h10' := eq_true h10
   clear har hop
   obtain ⟨name, op, gi, R, O⟩ := g
   simp only at hg hle' h10' hRl hRr hrl ⊢
   simp only [bL] at hft
   refine zI (cls := _root_.id) zB zD Tryz.func31 rfl (by decide) (Nat.le_of_ble_eq_true rfl) ?_
   rw [show Tryz.f31.ntmps = 60 from rfl, zC]
   simp only [List.zipIdx_cons, List.zipIdx_nil, List.map_cons, List.map_nil, Nat.reduceAdd, bL]
   repeat' first | apply zg | refine zf rfl fun K E hK hE => ?_ | (refine za fun κ η => ?_; simp only [go_sem, simprocAttr]; refine η _ ?_; clear η κ) | (refine zd (hK _ ?_); clear hE hK E K) | apply zb
   refine za fun κ η => ?_; simp only [go_sem, simprocAttr]; refine ⟨_, hg, ?_⟩; simp only [go_sem, simprocAttr]; refine η _ ?_; clear η κ
   repeat' first | apply zg | apply zj | refine zf rfl fun K E hK hE => ?_ | ((first | refine za fun κ η => ?_ | refine zo rfl fun κ η => ?_); simp only [go_sem, simprocAttr, hle', h10']; (repeat refine ⟨by omega, ?_⟩); refine η _ ?_; clear η κ) | (refine zd (hK _ ?_); clear hE hK E K) | apply zb | refine zh false rfl (fun h => (by cases h)) fun _ => ?_ | apply zi
   refine zW (fun m s' => ∃ k : Nat, m = R.length - k ∧ k ≤ R.length ∧ ∃ F G0, s' = nf 60 F G0 [(1, .t (.sl (ins.map fun x => [.b x]))), (6, .t (.sl (rR R))), (7, .t (.b O)), (11, .t (.b ((R.take k).any fun r => zan r ins))), (12, .t (.i .i64 k))] []) R.length ?_ ?_
   ·exact ⟨0, by omega, by omega, _, _, zp rfl ⟨rfl, rfl, rfl, rfl, rfl, trivial⟩ trivial⟩
   rintro m s' ⟨k, rfl, hk, F, G0, rfl⟩
   by_cases hd : k < R.length
   ·have hd' : ((k : Int) < R.length) = True := eq_true (by omega)
    obtain ⟨r, hr⟩ : ∃ r, R[k]? = some r := ⟨_, List.getElem?_eq_getElem hd⟩
    have hr' := zfZ hr
    have hf := hft r (hRr r (List.mem_of_getElem? hr))
    have hst := zi4 (p := fun r => zan r ins) hr
    generalize (R.take k).any (fun r => zan r ins) = one at *
    cases one with
    | true =>
     repeat' first | apply zg | apply zj | refine zf rfl fun K E hK hE => ?_ | ((first | refine za fun κ η => ?_ | refine zo rfl fun κ η => ?_); simp only [go_sem, simprocAttr, hd']; (repeat refine ⟨by omega, ?_⟩); refine η _ ?_; clear η κ) | (refine zd (hK _ ?_); clear hE hK E K) | apply zb | refine zh true rfl (fun _ => ?_) (fun h => (by cases h)) | apply zq | apply zi | apply zs
     exact ⟨R.length - (k + 1), by omega, k + 1, rfl, by omega, _, _, zp rfl ⟨rfl, rfl, rfl, by rw [hst]; rfl, rfl, trivial⟩ trivial⟩
    | false =>
     repeat' first | apply zg | apply zj | refine zf rfl fun K E hK hE => ?_ | ((first | refine za fun κ η => ?_ | refine zo rfl fun κ η => ?_); simp only [go_sem, simprocAttr, hd', hr']; (repeat refine ⟨by omega, ?_⟩); refine η _ ?_; clear η κ) | (refine zd (hK _ ?_); clear hE hK E K) | apply zb | refine zh true rfl (fun _ => ?_) (fun h => (by cases h)) | apply zi
     refine zo rfl fun κ η => ?_; simp only [go_sem, simprocAttr]; refine ⟨_, hf, ?_⟩; simp only [go_sem, simprocAttr]; refine η _ ?_; clear η κ
     repeat' first | refine zf rfl fun K E hK hE => ?_ | (refine za fun κ η => ?_; simp only [go_sem, simprocAttr]; (repeat refine ⟨by omega, ?_⟩); refine η _ ?_; clear η κ) | (refine zd (hK _ ?_); clear hE hK E K) | apply zb | apply zq | apply zs
     exact ⟨R.length - (k + 1), by omega, k + 1, rfl, by omega, _, _, zp rfl ⟨rfl, rfl, rfl, by rw [hst]; rfl, rfl, trivial⟩ trivial⟩
   obtain rfl : k = R.length := by omega
   rw [List.take_of_length_le (Nat.le_refl _)]
   repeat' first | apply zg | refine zf rfl fun K E hK hE => ?_ | (refine za fun κ η => ?_; simp only [go_sem, simprocAttr, Int.lt_irrefl]; refine η _ ?_; clear η κ) | (refine zd (hK _ ?_); clear hE hK E K) | apply zb | refine zh false rfl (fun h => (by cases h)) fun _ => ?_ | apply zt | apply zk | apply zu | apply zw | apply zx | (apply zm; apply zn; simp only [go_sem, simprocAttr, Int.lt_irrefl])
  ·rw [show zcq g ins.length = zbN g.op ins.length from if_neg h10] at hRl hRr ⊢
   have h10' := eq_false h10
   have hrw := zm3 Hy g.op ins.length hop h10 har
   generalize (zbN g.op ins.length).1 = R at *
   generalize (zbN g.op ins.length).2 = O at *
   obtain ⟨name, op, gi, rows, off⟩ := g
   simp only at hg hle' h10' hrw
   simp only [bL] at hft
   clear har hop
   refine zI (cls := _root_.id) zB zD Tryz.func31 rfl (by decide) (Nat.le_of_ble_eq_true rfl) ?_
   rw [show Tryz.f31.ntmps = 60 from rfl, zC]
   simp only [List.zipIdx_cons, List.zipIdx_nil, List.map_cons, List.map_nil, Nat.reduceAdd, bL]
   repeat' first | apply zg | refine zf rfl fun K E hK hE => ?_ | (refine za fun κ η => ?_; simp only [go_sem, simprocAttr]; refine η _ ?_; clear η κ) | (refine zd (hK _ ?_); clear hE hK E K) | apply zb
   refine za fun κ η => ?_; simp only [go_sem, simprocAttr]; refine ⟨_, hg, ?_⟩; simp only [go_sem, simprocAttr]; refine η _ ?_; clear η κ
   repeat' first | apply zg | refine zf rfl fun K E hK hE => ?_ | ((first | refine za fun κ η => ?_ | refine zo rfl fun κ η => ?_); simp only [go_sem, simprocAttr, hle', h10']; (repeat refine ⟨by omega, ?_⟩); refine η _ ?_; clear η κ) | (refine zd (hK _ ?_); clear hE hK E K) | apply zb | refine zh true rfl (fun _ => ?_) (fun h => (by cases h)) | refine zh false rfl (fun h => (by cases h)) fun _ => ?_ | apply zi
   refine za fun κ η => ?_; simp only [go_sem, simprocAttr]; refine ⟨_, hrw, ?_⟩; simp only [go_sem, simprocAttr]; refine η _ ?_; clear η κ
   repeat' first | apply zg | apply zj | refine zf rfl fun K E hK hE => ?_ | (refine za fun κ η => ?_; simp only [go_sem, simprocAttr]; refine η _ ?_; clear η κ) | (refine zd (hK _ ?_); clear hE hK E K) | apply zb
   refine zW (fun m s' => ∃ k : Nat, m = R.length - k ∧ k ≤ R.length ∧ ∃ F G0, s' = nf 60 F G0 [(1, .t (.sl (ins.map fun x => [.b x]))), (6, .t (.sl (rR R))), (7, .t (.b O)), (11, .t (.b ((R.take k).any fun r => zan r ins))), (12, .t (.i .i64 k))] []) R.length ?_ ?_
   ·exact ⟨0, by omega, by omega, _, _, zp rfl ⟨rfl, rfl, rfl, rfl, rfl, trivial⟩ trivial⟩
   rintro m s' ⟨k, rfl, hk, F, G0, rfl⟩
   by_cases hd : k < R.length
   ·have hd' : ((k : Int) < R.length) = True := eq_true (by omega)
    obtain ⟨r, hr⟩ : ∃ r, R[k]? = some r := ⟨_, List.getElem?_eq_getElem hd⟩
    have hr' := zfZ hr
    have hf := hft r (hRr r (List.mem_of_getElem? hr))
    have hst := zi4 (p := fun r => zan r ins) hr
    generalize (R.take k).any (fun r => zan r ins) = one at *
    cases one with
    | true =>
     repeat' first | apply zg | apply zj | refine zf rfl fun K E hK hE => ?_ | ((first | refine za fun κ η => ?_ | refine zo rfl fun κ η => ?_); simp only [go_sem, simprocAttr, hd']; (repeat refine ⟨by omega, ?_⟩); refine η _ ?_; clear η κ) | (refine zd (hK _ ?_); clear hE hK E K) | apply zb | refine zh true rfl (fun _ => ?_) (fun h => (by cases h)) | apply zq | apply zi | apply zs
     exact ⟨R.length - (k + 1), by omega, k + 1, rfl, by omega, _, _, zp rfl ⟨rfl, rfl, rfl, by rw [hst]; rfl, rfl, trivial⟩ trivial⟩
    | false =>
     repeat' first | apply zg | apply zj | refine zf rfl fun K E hK hE => ?_ | ((first | refine za fun κ η => ?_ | refine zo rfl fun κ η => ?_); simp only [go_sem, simprocAttr, hd', hr']; (repeat refine ⟨by omega, ?_⟩); refine η _ ?_; clear η κ) | (refine zd (hK _ ?_); clear hE hK E K) | apply zb | refine zh true rfl (fun _ => ?_) (fun h => (by cases h)) | apply zi
     refine zo rfl fun κ η => ?_; simp only [go_sem, simprocAttr]; refine ⟨_, hf, ?_⟩; simp only [go_sem, simprocAttr]; refine η _ ?_; clear η κ
     repeat' first | refine zf rfl fun K E hK hE => ?_ | (refine za fun κ η => ?_; simp only [go_sem, simprocAttr]; (repeat refine ⟨by omega, ?_⟩); refine η _ ?_; clear η κ) | (refine zd (hK _ ?_); clear hE hK E K) | apply zb | apply zq | apply zs
     exact ⟨R.length - (k + 1), by omega, k + 1, rfl, by omega, _, _, zp rfl ⟨rfl, rfl, rfl, by rw [hst]; rfl, rfl, trivial⟩ trivial⟩
   obtain rfl : k = R.length := by omega
   rw [List.take_of_length_le (Nat.le_refl _)]
   repeat' first | apply zg | refine zf rfl fun K E hK hE => ?_ | (refine za fun κ η => ?_; simp only [go_sem, simprocAttr, Int.lt_irrefl]; refine η _ ?_; clear η κ) | (refine zd (hK _ ?_); clear hE hK E K) | apply zb | refine zh false rfl (fun h => (by cases h)) fun _ => ?_ | apply zt | apply zk | apply zu | apply zw | apply zx | (apply zm; apply zn; simp only [go_sem, simprocAttr, Int.lt_irrefl])
end Go.Proofs.YtbhoeanfnbkenaaGreatDoor
