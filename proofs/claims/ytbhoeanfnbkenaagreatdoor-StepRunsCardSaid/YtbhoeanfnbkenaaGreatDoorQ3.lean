import Derived.Test.YtbhoeanfnbkenaaGreatDoorQ2
namespace Go.Proofs.YtbhoeanfnbkenaaGreatDoor
open Go.RowKit
set_option maxRecDepth 100000
set_option linter.unusedSimpArgs false
variable (Hy : World → Prop)
attribute [local irreducible] zU zY cwp z1 z6 lpQ z8 asQ bdQ bdY zab zac zad zaa
def zaP (c : UInt8) (v : Bool) : Bool := !((c == 49 && !v) || (c == 48 && v))
def zan (r : Row) (ins : List Bool) : Bool := (List.zipWith zaP r ins).all id
theorem zmS (r : Row) (ins : List Bool) (hl : ins.length ≤ r.length) (hr : r.length ≤ 1000000) : Ct Tryz.prog Hy 65 [.s (mk r), bL ins] [.b (zan r ins)] := by
 have hz : (List.zipWith zaP r ins).length = ins.length := by rw [List.length_zipWith]; omega
 refine zI (cls := _root_.id) zB zD Tryz.func65 rfl (by decide) (Nat.le_of_ble_eq_true rfl) ?_
 rw [show Tryz.f65.ntmps = 32 from rfl, zC]
 simp only [List.zipIdx_cons, List.zipIdx_nil, List.map_cons, List.map_nil, Nat.reduceAdd, bL]
 repeat' first | apply zg | apply zj | refine zf rfl fun K E hK hE => ?_ | (refine za fun κ η => ?_; simp only [go_sem, simprocAttr]; refine η _ ?_; clear η κ) | (refine zd (hK _ ?_); clear hE hK E K) | apply zb
 refine zW (fun m s' => ∃ k : Nat, m = ins.length - k ∧ k ≤ ins.length ∧ (∀ (j : Nat) y, j < k → (List.zipWith zaP r ins)[j]? = some y → y = true) ∧ ∃ F G0, s' = nf 32 F G0 [(0, .t (.s (mk r))), (7, .t (bL ins)), (8, .t (.i .i64 ins.length)), (9, .t (.i .i64 k))] []) (ins.length) ?_ ?_
 ·exact ⟨0, by omega, by omega, fun j x hj => absurd hj (Nat.not_lt_zero j), _, _, zp rfl ⟨rfl, rfl, rfl, rfl, trivial⟩ trivial⟩
 rintro m s' ⟨k, rfl, hk, hno, F, G0, rfl⟩
 simp only [bL]
 repeat' first | apply zg | refine zf rfl fun K E hK hE => ?_ | (refine za fun κ η => ?_; simp only [go_sem, simprocAttr]; refine η _ ?_; clear η κ) | (refine zd (hK _ ?_); clear hE hK E K) | apply zb
 refine zh _ rfl (fun hq => ?_) (fun hq => ?_)
 ·simp only [decide_eq_true_eq] at hq
  obtain ⟨v, hv⟩ : ∃ v, ins[k]? = some v := ⟨_, List.getElem?_eq_getElem (by omega)⟩
  obtain ⟨c, hc⟩ : ∃ c, r[k]? = some c := ⟨_, List.getElem?_eq_getElem (by omega)⟩
  have hw : (List.zipWith zaP r ins)[k]? = some (zaP c v) := by rw [List.getElem?_zipWith, hc, hv]
  have hgo : zaP c v = true → ∀ (j : Nat) y, j < k + 1 → (List.zipWith zaP r ins)[j]? = some y → y = true := fun h j y hj hy => by
   rcases Nat.lt_or_eq_of_le (Nat.lt_succ_iff.1 hj) with h1 | rfl
   ·exact hno j y h1 hy
   ·rw [hw] at hy; cases hy; exact h
  have hbad : zaP c v = false → zan r ins = false := fun h => by
   unfold zan
   rw [List.all_eq_false]
   exact ⟨_, List.mem_of_getElem? hw, by rw [h]; decide⟩
  by_cases c9 : c = 49
  ·have h9 : ((c.toNat : Int) = 49) = True := by rw [c49]; exact eq_true c9
   have h8 : ((c.toNat : Int) = 48) = False := by rw [c48, c9]; decide
   cases v with
   | true =>
    repeat' first | apply zg | apply zj | refine zf rfl fun K E hK hE => ?_ | ((first | refine za fun κ η => ?_ | refine zo rfl fun κ η => ?_); simp only [go_sem, simprocAttr, hv, zaZ, hc, Int.toNat_natCast, h9, h8]; (repeat refine ⟨by omega, ?_⟩); refine η _ ?_; clear η κ) | (refine zd (hK _ ?_); clear hE hK E K) | apply zb | apply zi
    refine zh _ rfl (fun hq => (by cases hq)) (fun hq => ?_)
    repeat' first | refine zf rfl fun K E hK hE => ?_ | (refine za fun κ η => ?_; simp only [go_sem, simprocAttr]; (repeat refine ⟨by omega, ?_⟩); refine η _ ?_; clear η κ) | (refine zd (hK _ ?_); clear hE hK E K) | apply zb | apply zq | apply zi | apply zs
    refine ⟨ins.length - (k + 1), by omega, k + 1, rfl, by omega, hgo (by rw [c9]; rfl), _, _, zp rfl ⟨rfl, rfl, rfl, rfl, trivial⟩ trivial⟩
   | false =>
    repeat' first | apply zg | apply zj | refine zf rfl fun K E hK hE => ?_ | ((first | refine za fun κ η => ?_ | refine zo rfl fun κ η => ?_); simp only [go_sem, simprocAttr, hv, zaZ, hc, Int.toNat_natCast, h9, h8]; (repeat refine ⟨by omega, ?_⟩); refine η _ ?_; clear η κ) | (refine zd (hK _ ?_); clear hE hK E K) | apply zb | apply zi
    refine zh _ rfl (fun hq => ?_) (fun hq => (by cases hq))
    repeat' first | apply zg | refine zf rfl fun K E hK hE => ?_ | (refine za fun κ η => ?_; simp only [go_sem, simprocAttr]; refine η _ ?_; clear η κ) | (refine zd (hK _ ?_); clear hE hK E K) | apply zb | apply zk | apply zy | apply zJ | apply zL | (apply zm; apply zn; simp only [go_sem, simprocAttr])
    rw [hbad (by rw [c9]; rfl)]
  have h9 : ((c.toNat : Int) = 49) = False := by rw [c49]; exact eq_false c9
  by_cases c8 : c = 48
  ·have h8 : ((c.toNat : Int) = 48) = True := by rw [c48]; exact eq_true c8
   cases v with
   | true =>
    repeat' first | apply zg | apply zj | refine zf rfl fun K E hK hE => ?_ | ((first | refine za fun κ η => ?_ | refine zo rfl fun κ η => ?_); simp only [go_sem, simprocAttr, hv, zaZ, hc, Int.toNat_natCast, h9, h8]; (repeat refine ⟨by omega, ?_⟩); refine η _ ?_; clear η κ) | (refine zd (hK _ ?_); clear hE hK E K) | apply zb | apply zi
    refine zh _ rfl (fun hq => ?_) (fun hq => (by cases hq))
    repeat' first | apply zg | refine zf rfl fun K E hK hE => ?_ | (refine za fun κ η => ?_; simp only [go_sem, simprocAttr]; refine η _ ?_; clear η κ) | (refine zd (hK _ ?_); clear hE hK E K) | apply zb | apply zk | apply zy | apply zJ | apply zL | (apply zm; apply zn; simp only [go_sem, simprocAttr])
    rw [hbad (by rw [c8]; rfl)]
   | false =>
    repeat' first | apply zg | apply zj | refine zf rfl fun K E hK hE => ?_ | ((first | refine za fun κ η => ?_ | refine zo rfl fun κ η => ?_); simp only [go_sem, simprocAttr, hv, zaZ, hc, Int.toNat_natCast, h9, h8]; (repeat refine ⟨by omega, ?_⟩); refine η _ ?_; clear η κ) | (refine zd (hK _ ?_); clear hE hK E K) | apply zb | apply zi
    refine zh _ rfl (fun hq => (by cases hq)) (fun hq => ?_)
    repeat' first | refine zf rfl fun K E hK hE => ?_ | (refine za fun κ η => ?_; simp only [go_sem, simprocAttr]; (repeat refine ⟨by omega, ?_⟩); refine η _ ?_; clear η κ) | (refine zd (hK _ ?_); clear hE hK E K) | apply zb | apply zq | apply zi | apply zs
    refine ⟨ins.length - (k + 1), by omega, k + 1, rfl, by omega, hgo (by rw [c8]; rfl), _, _, zp rfl ⟨rfl, rfl, rfl, rfl, trivial⟩ trivial⟩
  ·have h8 : ((c.toNat : Int) = 48) = False := by rw [c48]; exact eq_false c8
   repeat' first | apply zg | apply zj | refine zf rfl fun K E hK hE => ?_ | ((first | refine za fun κ η => ?_ | refine zo rfl fun κ η => ?_); simp only [go_sem, simprocAttr, hv, zaZ, hc, Int.toNat_natCast, h9, h8]; (repeat refine ⟨by omega, ?_⟩); refine η _ ?_; clear η κ) | (refine zd (hK _ ?_); clear hE hK E K) | apply zb | apply zi
   refine zh _ rfl (fun hq => (by cases hq)) (fun hq => ?_)
   repeat' first | refine zf rfl fun K E hK hE => ?_ | (refine za fun κ η => ?_; simp only [go_sem, simprocAttr]; (repeat refine ⟨by omega, ?_⟩); refine η _ ?_; clear η κ) | (refine zd (hK _ ?_); clear hE hK E K) | apply zb | apply zq | apply zi | apply zs
   refine ⟨ins.length - (k + 1), by omega, k + 1, rfl, by omega, hgo (by simp [zaP, c8, c9]), _, _, zp rfl ⟨rfl, rfl, rfl, rfl, trivial⟩ trivial⟩
 ·simp only [decide_eq_false_iff_not] at hq
  have hb : zan r ins = true := by
   unfold zan
   rw [List.all_eq_true]
   intro y hy
   obtain ⟨j, hj⟩ := List.getElem?_of_mem hy
   have := (List.getElem?_eq_some_iff.1 hj).1
   exact hno j y (by omega) hj
  repeat' first | apply zg | refine zf rfl fun K E hK hE => ?_ | (refine za fun κ η => ?_; simp only [go_sem, simprocAttr]; refine η _ ?_; clear η κ) | (refine zd (hK _ ?_); clear hE hK E K) | apply zb | apply zt | apply zk | apply zu | apply zw | apply zx | (apply zm; apply zn; simp only [go_sem, simprocAttr])
  rw [hb]
def zb4 (ins : List Bool) : Bool := ins.foldl (fun a v => a != v) false
theorem zmT {ins : List Bool} {k : Nat} {v : Bool} (h : ins[k]? = some v) : zb4 (ins.take (k + 1)) = (zb4 (ins.take k) != v) := by
 unfold zb4
 rw [List.take_add_one, h, List.foldl_append]
 rfl
theorem zmU (ins : List Bool) (hl : ins.length ≤ 1000000) : Ct Tryz.prog Hy 62 [bL ins] [.b (zb4 ins)] := by
 refine zI (cls := _root_.id) zB zD Tryz.func62 rfl (by decide) (Nat.le_of_ble_eq_true rfl) ?_
 rw [show Tryz.f62.ntmps = 17 from rfl, zC]
 simp only [List.zipIdx_cons, List.zipIdx_nil, List.map_cons, List.map_nil, Nat.reduceAdd, bL]
 repeat' first | apply zg | apply zj | refine zf rfl fun K E hK hE => ?_ | (refine za fun κ η => ?_; simp only [go_sem, simprocAttr]; refine η _ ?_; clear η κ) | (refine zd (hK _ ?_); clear hE hK E K) | apply zb
 refine zW (fun m s' => ∃ k : Nat, m = ins.length - k ∧ k ≤ ins.length ∧ (True) ∧ ∃ F G0, s' = nf 17 F G0 [(3, .t (.b (zb4 (ins.take k)))), (6, .t (bL ins)), (7, .t (.i .i64 ins.length)), (8, .t (.i .i64 k))] []) (ins.length) ?_ ?_
 ·exact ⟨0, by omega, by omega, trivial, _, _, zp rfl ⟨rfl, rfl, rfl, rfl, trivial⟩ trivial⟩
 rintro m s' ⟨k, rfl, hk, -, F, G0, rfl⟩
 simp only [bL]
 repeat' first | apply zg | refine zf rfl fun K E hK hE => ?_ | (refine za fun κ η => ?_; simp only [go_sem, simprocAttr]; refine η _ ?_; clear η κ) | (refine zd (hK _ ?_); clear hE hK E K) | apply zb
 refine zh _ rfl (fun hq => ?_) (fun hq => ?_)
 ·simp only [decide_eq_true_eq] at hq
  obtain ⟨v, hv⟩ : ∃ v, ins[k]? = some v := ⟨_, List.getElem?_eq_getElem (by omega)⟩
  have ht := zmT hv
  repeat' first | apply zg | apply zj | refine zf rfl fun K E hK hE => ?_ | (refine za fun κ η => ?_; simp only [go_sem, simprocAttr, hv]; (repeat refine ⟨by omega, ?_⟩); refine η _ ?_; clear η κ) | (refine zd (hK _ ?_); clear hE hK E K) | apply zb | apply zq | apply zi | apply zs
  rw [← ht]
  refine ⟨ins.length - (k + 1), by omega, k + 1, rfl, by omega, trivial, _, _, zp rfl ⟨rfl, rfl, rfl, rfl, trivial⟩ trivial⟩
 ·simp only [decide_eq_false_iff_not] at hq
  rw [List.take_of_length_le (by omega)]
  repeat' first | apply zg | refine zf rfl fun K E hK hE => ?_ | (refine za fun κ η => ?_; simp only [go_sem, simprocAttr]; refine η _ ?_; clear η κ) | (refine zd (hK _ ?_); clear hE hK E K) | apply zb | apply zt | apply zk | apply zu | apply zw | apply zx | (apply zm; apply zn; simp only [go_sem, simprocAttr])
theorem zmV (l : List Bool) (v : Bool) (hl : l.length ≤ 1000000) : Ct Tryz.prog Hy 75 [bL l, .b v] [.i .i64 (ixI (fun x => decide (v = x)) l)] := by
 refine zI (cls := _root_.id) zB zD Tryz.func75 rfl (by decide) (Nat.le_of_ble_eq_true rfl) ?_
 rw [show Tryz.f75.ntmps = 19 from rfl, zC]
 simp only [List.zipIdx_cons, List.zipIdx_nil, List.map_cons, List.map_nil, Nat.reduceAdd, bL]
 repeat' first | apply zg | apply zj | refine zf rfl fun K E hK hE => ?_ | (refine za fun κ η => ?_; simp only [go_sem, simprocAttr]; refine η _ ?_; clear η κ) | (refine zd (hK _ ?_); clear hE hK E K) | apply zb
 refine zW (fun m s' => ∃ k : Nat, m = l.length - k ∧ k ≤ l.length ∧ (∀ (j : Nat) y, j < k → l[j]? = some y → decide (v = y) = false) ∧ ∃ F G0, s' = nf 19 F G0 [(0, .t (bL l)), (1, .t (.b v)), (6, .t (bL l)), (7, .t (.i .i64 l.length)), (8, .t (.i .i64 k))] []) (l.length) ?_ ?_
 ·exact ⟨0, by omega, by omega, fun j x hj => absurd hj (Nat.not_lt_zero j), _, _, zp rfl ⟨rfl, rfl, rfl, rfl, rfl, trivial⟩ trivial⟩
 rintro m s' ⟨k, rfl, hk, hno, F, G0, rfl⟩
 simp only [bL]
 repeat' first | apply zg | refine zf rfl fun K E hK hE => ?_ | (refine za fun κ η => ?_; simp only [go_sem, simprocAttr]; refine η _ ?_; clear η κ) | (refine zd (hK _ ?_); clear hE hK E K) | apply zb
 refine zh _ rfl (fun hq => ?_) (fun hq => ?_)
 ·simp only [decide_eq_true_eq] at hq
  obtain ⟨x, hx⟩ : ∃ x, l[k]? = some x := ⟨_, List.getElem?_eq_getElem (by omega)⟩
  by_cases hvx : v = x
  ·have hve : (v == x) = true := by simpa using hvx
   repeat' first | apply zg | apply zj | refine zf rfl fun K E hK hE => ?_ | (refine za fun κ η => ?_; simp only [go_sem, simprocAttr, hx, hve]; (repeat refine ⟨by omega, ?_⟩); refine η _ ?_; clear η κ) | (refine zd (hK _ ?_); clear hE hK E K) | apply zb | apply zi
   refine zh _ rfl (fun hq2 => ?_) (fun hq2 => (by cases hq2))
   repeat' first | apply zg | refine zf rfl fun K E hK hE => ?_ | (refine za fun κ η => ?_; simp only [go_sem, simprocAttr]; refine η _ ?_; clear η κ) | (refine zd (hK _ ?_); clear hE hK E K) | apply zb | apply zk | apply zy | apply zJ | apply zL | (apply zm; apply zn; simp only [go_sem, simprocAttr])
   rw [zeq hx (by simpa using hvx) hno]
  ·have hve : (v == x) = false := by simpa using hvx
   repeat' first | apply zg | apply zj | refine zf rfl fun K E hK hE => ?_ | (refine za fun κ η => ?_; simp only [go_sem, simprocAttr, hx, hve]; (repeat refine ⟨by omega, ?_⟩); refine η _ ?_; clear η κ) | (refine zd (hK _ ?_); clear hE hK E K) | apply zb | apply zi
   refine zh _ rfl (fun hq2 => (by cases hq2)) (fun hq2 => ?_)
   repeat' first | refine zf rfl fun K E hK hE => ?_ | (refine za fun κ η => ?_; simp only [go_sem, simprocAttr]; (repeat refine ⟨by omega, ?_⟩); refine η _ ?_; clear η κ) | (refine zd (hK _ ?_); clear hE hK E K) | apply zb | apply zq | apply zi | apply zs
   refine ⟨l.length - (k + 1), by omega, k + 1, rfl, by omega, fun j y hj hy => ?_, _, _, zp rfl ⟨rfl, rfl, rfl, rfl, rfl, trivial⟩ trivial⟩
   rcases Nat.lt_or_eq_of_le (Nat.lt_succ_iff.1 hj) with h | rfl
   ·exact hno j y h hy
   ·rw [hx] at hy; cases hy; simpa using hvx
 ·simp only [decide_eq_false_iff_not] at hq
  repeat' first | apply zg | refine zf rfl fun K E hK hE => ?_ | (refine za fun κ η => ?_; simp only [go_sem, simprocAttr]; refine η _ ?_; clear η κ) | (refine zd (hK _ ?_); clear hE hK E K) | apply zb | apply zt | apply zk | apply zu | apply zw | apply zx | (apply zm; apply zn; simp only [go_sem, simprocAttr])
  rw [zfx (fun j y hj hy => hno j y (by omega) hy)]
theorem ziO (l : List Bool) (v : Bool) (hl : l.length ≤ 1000000) : Ct Tryz.prog Hy 60 [bL l, .b v] [.b (decide (v ∈ l))] := by
 have hi := zmV Hy l v hl
 have hb : (l.any fun x => decide (v = x)) = decide (v ∈ l) := by
  rw [Bool.eq_iff_iff, List.any_eq_true, decide_eq_true_eq]
  constructor
  ·rintro ⟨x, hx, he⟩
   rw [of_decide_eq_true he]
   exact hx
  ·intro h
   exact ⟨v, h, decide_eq_true rfl⟩
 simp only [bL] at hi
 refine zI (cls := _root_.id) zB zD Tryz.func60 rfl (by decide) (Nat.le_of_ble_eq_true rfl) ?_
 rw [show Tryz.f60.ntmps = 9 from rfl, zC]
 simp only [List.zipIdx_cons, List.zipIdx_nil, List.map_cons, List.map_nil, Nat.reduceAdd, bL]
 repeat' first | apply zg | refine zf rfl fun K E hK hE => ?_ | (refine za fun κ η => ?_; simp only [go_sem, simprocAttr]; refine η _ ?_; clear η κ) | (refine zd (hK _ ?_); clear hE hK E K) | apply zb
 refine za fun κ η => ?_; simp only [go_sem, simprocAttr]; refine ⟨_, hi, ?_⟩; simp only [go_sem, simprocAttr]; refine η _ ?_; clear η κ
 repeat' first | (refine za fun κ η => ?_; simp only [go_sem, simprocAttr, zer, hb]; refine η _ ?_; clear η κ) | (refine zd (hK _ ?_); clear hE hK E K) | apply zb | apply zk | (apply zm; apply zn; simp only [go_sem, simprocAttr, zer, hb])
end Go.Proofs.YtbhoeanfnbkenaaGreatDoor
