import Derived.Test.YtbhoeanfnbkenaaGreatDoorR5
import Derived.Test.YtbhoeanfnbkenaaGreatDoorR32
namespace Go.Proofs.YtbhoeanfnbkenaaGreatDoor
open Go.RowKit Go.WideMaps
set_option maxRecDepth 100000
set_option linter.unusedSimpArgs false
variable (Hy : World → Prop)
attribute [local irreducible] zU zY cwp z1 z6 lpQ z8 asQ bdQ bdY zab zac zad zaa
theorem znj (r : Row) (n : Int) (hr : r.length ≤ 140737488355328) : Ct Tryz.prog Hy 70 [.s (mk r), .i .i64 n] [.b (zbd n r)] := by
 refine zI (cls := _root_.id) zB zD Tryz.func70 rfl (by decide) (Nat.le_of_ble_eq_true rfl) ?_
 rw [show Tryz.f70.ntmps = 32 from rfl, zC]
 simp only [List.zipIdx_cons, List.zipIdx_nil, List.map_cons, List.map_nil, Nat.reduceAdd]
 repeat' first | apply zg | apply zj | refine zf rfl fun K E hK hE => ?_ | (refine za fun κ η => ?_; simp only [go_sem, simprocAttr]; refine η _ ?_; clear η κ) | (refine zd (hK _ ?_); clear hE hK E K) | apply zb
 refine zW (fun m s' => ∃ k : Nat, m = r.length - k ∧ k ≤ r.length ∧ (∀ (j : Nat) c, j < k → r[j]? = some c → c = 48 ∨ c = 49 ∨ c = 45) ∧ ∃ F G0, s' = nf 32 F G0 [(0, .t (.s (mk r))), (1, .t (.i .i64 n)), (5, .t (.i .i64 k))] []) (r.length) ?_ ?_
 ·exact ⟨0, by omega, by omega, fun j c hj => absurd hj (Nat.not_lt_zero j), _, _, zp rfl ⟨rfl, rfl, rfl, trivial⟩ trivial⟩
 rintro m s' ⟨k, rfl, hk, hno, F, G0, rfl⟩
 repeat' first | apply zg | refine zf rfl fun K E hK hE => ?_ | (refine za fun κ η => ?_; simp only [go_sem, simprocAttr, zbI]; refine η _ ?_; clear η κ) | (refine zd (hK _ ?_); clear hE hK E K) | apply zb
 refine zh _ rfl (fun hq => ?_) (fun hq => ?_)
 ·simp only [decide_eq_true_eq] at hq
  obtain ⟨c, hc⟩ : ∃ c, r[k]? = some c := ⟨_, List.getElem?_eq_getElem (by omega)⟩
  have hgo : (c = 48 ∨ c = 49 ∨ c = 45) → ∀ (j : Nat) y, j < k + 1 → r[j]? = some y → y = 48 ∨ y = 49 ∨ y = 45 := fun h j y hj hy => by
   rcases Nat.lt_or_eq_of_le (Nat.lt_succ_iff.1 hj) with h1 | rfl
   ·exact hno j y h1 hy
   ·rw [hc] at hy; cases hy; exact h
  by_cases c8 : c = 48
  ·have h8 : ((c.toNat : Int) = 48) = True := by rw [c48]; exact eq_true c8
   repeat' first | apply zg | apply zj | refine zf rfl fun K E hK hE => ?_ | ((first | refine za fun κ η => ?_ | refine zo rfl fun κ η => ?_); simp only [go_sem, simprocAttr, zaZ, hc, Int.toNat_natCast, h8]; (repeat refine ⟨by omega, ?_⟩); refine η _ ?_; clear η κ) | (refine zd (hK _ ?_); clear hE hK E K) | apply zb | apply zi
   refine zh _ rfl (fun hq => (by cases hq)) (fun hq => ?_)
   repeat' first | refine zf rfl fun K E hK hE => ?_ | (refine za fun κ η => ?_; simp only [go_sem, simprocAttr]; (repeat refine ⟨by omega, ?_⟩); refine η _ ?_; clear η κ) | (refine zd (hK _ ?_); clear hE hK E K) | apply zb | apply zq | apply zi | apply zs
   refine ⟨r.length - (k + 1), by omega, k + 1, rfl, by omega, hgo (.inl c8), _, _, zp rfl ⟨rfl, rfl, rfl, trivial⟩ trivial⟩
  have h8 : ((c.toNat : Int) = 48) = False := by rw [c48]; exact eq_false c8
  by_cases c9 : c = 49
  ·have h9 : ((c.toNat : Int) = 49) = True := by rw [c49]; exact eq_true c9
   repeat' first | apply zg | apply zj | refine zf rfl fun K E hK hE => ?_ | ((first | refine za fun κ η => ?_ | refine zo rfl fun κ η => ?_); simp only [go_sem, simprocAttr, zaZ, hc, Int.toNat_natCast, h8, h9]; (repeat refine ⟨by omega, ?_⟩); refine η _ ?_; clear η κ) | (refine zd (hK _ ?_); clear hE hK E K) | apply zb | apply zi
   refine zh _ rfl (fun hq => (by cases hq)) (fun hq => ?_)
   repeat' first | refine zf rfl fun K E hK hE => ?_ | (refine za fun κ η => ?_; simp only [go_sem, simprocAttr]; (repeat refine ⟨by omega, ?_⟩); refine η _ ?_; clear η κ) | (refine zd (hK _ ?_); clear hE hK E K) | apply zb | apply zq | apply zi | apply zs
   refine ⟨r.length - (k + 1), by omega, k + 1, rfl, by omega, hgo (.inr (.inl c9)), _, _, zp rfl ⟨rfl, rfl, rfl, trivial⟩ trivial⟩
  have h9 : ((c.toNat : Int) = 49) = False := by rw [c49]; exact eq_false c9
  by_cases c5 : c = 45
  ·have h5 : ((c.toNat : Int) = 45) = True := by rw [c45]; exact eq_true c5
   repeat' first | apply zg | apply zj | refine zf rfl fun K E hK hE => ?_ | ((first | refine za fun κ η => ?_ | refine zo rfl fun κ η => ?_); simp only [go_sem, simprocAttr, zaZ, hc, Int.toNat_natCast, h8, h9, h5]; (repeat refine ⟨by omega, ?_⟩); refine η _ ?_; clear η κ) | (refine zd (hK _ ?_); clear hE hK E K) | apply zb | apply zi
   refine zh _ rfl (fun hq => (by cases hq)) (fun hq => ?_)
   repeat' first | refine zf rfl fun K E hK hE => ?_ | (refine za fun κ η => ?_; simp only [go_sem, simprocAttr]; (repeat refine ⟨by omega, ?_⟩); refine η _ ?_; clear η κ) | (refine zd (hK _ ?_); clear hE hK E K) | apply zb | apply zq | apply zi | apply zs
   refine ⟨r.length - (k + 1), by omega, k + 1, rfl, by omega, hgo (.inr (.inr c5)), _, _, zp rfl ⟨rfl, rfl, rfl, trivial⟩ trivial⟩
  ·have h5 : ((c.toNat : Int) = 45) = False := by rw [c45]; exact eq_false c5
   have hb : zbd n r = false := by
    rw [zbd, Bool.and_eq_false_iff, List.all_eq_false]
    exact .inr ⟨c, List.mem_of_getElem? hc, by simp [c8, c9, c5]⟩
   repeat' first | apply zg | apply zj | refine zf rfl fun K E hK hE => ?_ | ((first | refine za fun κ η => ?_ | refine zo rfl fun κ η => ?_); simp only [go_sem, simprocAttr, zaZ, hc, Int.toNat_natCast, h8, h9, h5]; (repeat refine ⟨by omega, ?_⟩); refine η _ ?_; clear η κ) | (refine zd (hK _ ?_); clear hE hK E K) | apply zb | apply zi
   refine zh _ rfl (fun hq => ?_) (fun hq => (by cases hq))
   repeat' first | apply zg | refine zf rfl fun K E hK hE => ?_ | (refine za fun κ η => ?_; simp only [go_sem, simprocAttr]; refine η _ ?_; clear η κ) | (refine zd (hK _ ?_); clear hE hK E K) | apply zb | apply zk | apply zy | apply zJ | apply zL | (apply zm; apply zn; simp only [go_sem, simprocAttr])
   rw [hb]
 ·simp only [decide_eq_false_iff_not] at hq
  have hb : zbd n r = decide ((r.length : Int) = n) := by
   rw [zbd, List.all_eq_true.2, Bool.and_true]
   intro c hc
   obtain ⟨j, hj⟩ := List.getElem?_of_mem hc
   have := (List.getElem?_eq_some_iff.1 hj).1
   rcases hno j c (by omega) hj with h | h | h <;> simp [h]
  repeat' first | apply zg | refine zf rfl fun K E hK hE => ?_ | (refine za fun κ η => ?_; simp only [go_sem, simprocAttr, zbI]; refine η _ ?_; clear η κ) | (refine zd (hK _ ?_); clear hE hK E K) | apply zb | apply zt | apply zk | apply zu | apply zw | apply zx | (apply zm; apply zn; simp only [go_sem, simprocAttr, zbI])
  rw [hb]
theorem zfZ {l : List Row} {k : Nat} {x : Row} (h : l[k]? = some x) : (rR l)[k]? = some [.s (mk x)] := by unfold rR; rw [List.getElem?_map, h]; rfl
set_option maxHeartbeats 4000000 in
theorem zi5 (g : Gt) (hi : g.ins.length ≤ 1000000) (hrl : g.rows.length ≤ 140737488355328) (hz : ∀ r ∈ g.rows, r.length ≤ 140737488355328) : Ct Tryz.prog Hy 48 [.ag [.s g.name, .i .i64 g.op, .sl (sR g.ins), .sl (rR g.rows), .b g.off]] [.b (zaM g)] := by
 obtain ⟨name, op, ins, rows, off⟩ := g
 simp only at hi hrl hz
 obtain ⟨R, e⟩ : ∃ R, R = zaM ⟨name, op, ins, rows, off⟩ := ⟨_, rfl⟩
 rw [← e]
 unfold zaM at e
 simp only at e
 by_cases h10 : op = 10
 ·subst h10
  rw [show opB 10 = true from rfl, show loF 10 = 0 from rfl, show hiF 10 = 8 from rfl, if_pos rfl, Bool.true_and] at e
  refine zI (cls := _root_.id) zB zD Tryz.func48 rfl (by decide) (Nat.le_of_ble_eq_true rfl) ?_
  rw [show Tryz.f48.ntmps = 82 from rfl, zC]
  simp only [List.zipIdx_cons, List.zipIdx_nil, List.map_cons, List.map_nil, Nat.reduceAdd]
  repeat' first | apply zg | apply zj | refine zf rfl fun K E hK hE => ?_ | (refine za fun κ η => ?_; simp only [go_sem, simprocAttr, Int.reduceEq]; (repeat refine ⟨by omega, ?_⟩); refine η _ ?_; clear η κ) | (refine zd (hK _ ?_); clear hE hK E K) | apply zb | refine zh true rfl (fun _ => ?_) (fun h => (by cases h))
  refine zW (fun m s' => ∃ k : Nat, m = rows.length - k ∧ k ≤ rows.length ∧ (∀ (j : Nat) y, j < k → rows[j]? = some y → zbd ins.length y = true) ∧ ∃ F G0, s' = nf 82 F G0 [(1, .ptr 1 1 0), (3, .t (.i .i64 ins.length)), (4, .t (.i .i64 k))] [(1, ⟨1, .cells 47 [.t (.s name), .t (.i .i64 10), .t (.sl (sR ins)), .t (.sl (rR rows)), .t (.b off)]⟩)]) (rows.length) ?_ ?_
  ·exact ⟨0, by omega, by omega, fun j c hj => absurd hj (Nat.not_lt_zero j), _, _, zp rfl ⟨rfl, rfl, rfl, trivial⟩ ⟨rfl, trivial⟩⟩
  rintro m s' ⟨k, rfl, hk, hno, F, G0, rfl⟩
  by_cases c1 : (k : Int) < rows.length
  ·by_cases c2 : (k : Int) ≤ 128
   ·obtain ⟨r, hr⟩ : ∃ r, rows[k]? = some r := ⟨_, List.getElem?_eq_getElem (by omega)⟩
    have hrm := List.mem_of_getElem? hr
    have hr' := zfZ hr
    have hrw := znj Hy r ins.length (hz r hrm)
    repeat' first | apply zg | apply zj | refine zf rfl fun K E hK hE => ?_ | ((first | refine za fun κ η => ?_ | refine zo rfl fun κ η => ?_); simp only [go_sem, simprocAttr, eq_true c1, eq_true c2, hr']; (repeat refine ⟨by omega, ?_⟩); refine η _ ?_; clear η κ) | (refine zd (hK _ ?_); clear hE hK E K) | apply zb | refine zh true rfl (fun _ => ?_) (fun h => (by cases h)) | apply zi
    refine za fun κ η => ?_; simp only [go_sem, simprocAttr]; refine ⟨_, hrw, ?_⟩; simp only [go_sem, simprocAttr]; refine η _ ?_; clear η κ
    cases hb : zbd ins.length r with
    | true =>
     repeat' first | refine zf rfl fun K E hK hE => ?_ | (refine za fun κ η => ?_; simp only [go_sem, simprocAttr]; (repeat refine ⟨by omega, ?_⟩); refine η _ ?_; clear η κ) | (refine zd (hK _ ?_); clear hE hK E K) | apply zb | refine zh false rfl (fun h => (by cases h)) fun _ => ?_ | apply zq | apply zi | apply zs
     refine ⟨rows.length - (k + 1), by omega, k + 1, rfl, by omega, fun j y hj hy => ?_, _, _, zp rfl ⟨rfl, rfl, rfl, trivial⟩ ⟨rfl, trivial⟩⟩
     rcases Nat.lt_or_eq_of_le (Nat.lt_succ_iff.1 hj) with h | rfl
     ·exact hno j y h hy
     ·rw [hr] at hy; cases hy; exact hb
    | false =>
     have ha : rows.all (zbd ins.length) = false := List.all_eq_false.2 ⟨r, hrm, by rw [hb]; decide⟩
     rw [ha, Bool.and_false, Bool.and_false] at e
     subst e
     repeat' first | apply zg | refine zf rfl fun K E hK hE => ?_ | (refine za fun κ η => ?_; simp only [go_sem, simprocAttr]; refine η _ ?_; clear η κ) | (refine zd (hK _ ?_); clear hE hK E K) | apply zb | refine zh true rfl (fun _ => ?_) (fun h => (by cases h)) | apply zk | apply zy | apply zJ | apply zL | (apply zm; apply zn; simp only [go_sem, simprocAttr])
   ·rw [decide_eq_false (show ¬ rows.length ≤ 128 by omega), Bool.false_and, Bool.and_false] at e
    subst e
    by_cases c3 : ins.length ≤ 8
    ·repeat' first | apply zg | refine zf rfl fun K E hK hE => ?_ | ((first | refine za fun κ η => ?_ | refine zo rfl fun κ η => ?_); simp only [go_sem, simprocAttr, eq_true c1, eq_false c2, eq_true (show (ins.length : Int) ≤ 8 by omega), eq_false (show ¬ (rows.length : Int) ≤ 128 by omega)]; (repeat refine ⟨by omega, ?_⟩); refine η _ ?_; clear η κ) | (refine zd (hK _ ?_); clear hE hK E K) | apply zb | refine zh false rfl (fun h => (by cases h)) fun _ => ?_ | apply zt | apply zk | apply zu | apply zw | apply zx | apply zy | (apply zm; apply zn; simp only [go_sem, simprocAttr, eq_true c1, eq_false c2, eq_true (show (ins.length : Int) ≤ 8 by omega), eq_false (show ¬ (rows.length : Int) ≤ 128 by omega)])
    ·repeat' first | apply zg | refine zf rfl fun K E hK hE => ?_ | ((first | refine za fun κ η => ?_ | refine zo rfl fun κ η => ?_); simp only [go_sem, simprocAttr, eq_true c1, eq_false c2, eq_false (show ¬ (ins.length : Int) ≤ 8 by omega)]; (repeat refine ⟨by omega, ?_⟩); refine η _ ?_; clear η κ) | (refine zd (hK _ ?_); clear hE hK E K) | apply zb | refine zh false rfl (fun h => (by cases h)) fun _ => ?_ | apply zt | apply zk | apply zu | apply zw | apply zx | apply zy | (apply zm; apply zn; simp only [go_sem, simprocAttr, eq_true c1, eq_false c2, eq_false (show ¬ (ins.length : Int) ≤ 8 by omega)])
  ·have ha : rows.all (zbd ins.length) = true := List.all_eq_true.2 fun r hr => by
    obtain ⟨j, hj⟩ := List.getElem?_of_mem hr
    exact hno j r (by have := (List.getElem?_eq_some_iff.1 hj).1; omega) hj
   rw [ha, Bool.and_true] at e
   by_cases c3 : ins.length ≤ 8
   ·rw [decide_eq_true (show (0 : Int) ≤ ins.length ∧ (ins.length : Int) ≤ 8 by omega), Bool.true_and] at e
    by_cases c4 : rows.length ≤ 128
    ·rw [decide_eq_true c4] at e
     subst e
     repeat' first | apply zg | refine zf rfl fun K E hK hE => ?_ | ((first | refine za fun κ η => ?_ | refine zo rfl fun κ η => ?_); simp only [go_sem, simprocAttr, eq_false c1, eq_true (show (ins.length : Int) ≤ 8 by omega), eq_true (show (rows.length : Int) ≤ 128 by omega)]; (repeat refine ⟨by omega, ?_⟩); refine η _ ?_; clear η κ) | (refine zd (hK _ ?_); clear hE hK E K) | apply zb | refine zh false rfl (fun h => (by cases h)) fun _ => ?_ | apply zt | apply zk | apply zu | apply zw | apply zx | apply zy | (apply zm; apply zn; simp only [go_sem, simprocAttr, eq_false c1, eq_true (show (ins.length : Int) ≤ 8 by omega), eq_true (show (rows.length : Int) ≤ 128 by omega)])
    ·rw [decide_eq_false c4] at e
     subst e
     repeat' first | apply zg | refine zf rfl fun K E hK hE => ?_ | ((first | refine za fun κ η => ?_ | refine zo rfl fun κ η => ?_); simp only [go_sem, simprocAttr, eq_false c1, eq_true (show (ins.length : Int) ≤ 8 by omega), eq_false (show ¬ (rows.length : Int) ≤ 128 by omega)]; (repeat refine ⟨by omega, ?_⟩); refine η _ ?_; clear η κ) | (refine zd (hK _ ?_); clear hE hK E K) | apply zb | refine zh false rfl (fun h => (by cases h)) fun _ => ?_ | apply zt | apply zk | apply zu | apply zw | apply zx | apply zy | (apply zm; apply zn; simp only [go_sem, simprocAttr, eq_false c1, eq_true (show (ins.length : Int) ≤ 8 by omega), eq_false (show ¬ (rows.length : Int) ≤ 128 by omega)])
   ·rw [decide_eq_false (show ¬ ((0 : Int) ≤ ins.length ∧ (ins.length : Int) ≤ 8) by omega), Bool.false_and] at e
    subst e
    repeat' first | apply zg | refine zf rfl fun K E hK hE => ?_ | ((first | refine za fun κ η => ?_ | refine zo rfl fun κ η => ?_); simp only [go_sem, simprocAttr, eq_false c1, eq_false (show ¬ (ins.length : Int) ≤ 8 by omega)]; (repeat refine ⟨by omega, ?_⟩); refine η _ ?_; clear η κ) | (refine zd (hK _ ?_); clear hE hK E K) | apply zb | refine zh false rfl (fun h => (by cases h)) fun _ => ?_ | apply zt | apply zk | apply zu | apply zw | apply zx | apply zy | (apply zm; apply zn; simp only [go_sem, simprocAttr, eq_false c1, eq_false (show ¬ (ins.length : Int) ≤ 8 by omega)])
 rw [if_neg h10] at e
 have d10 := eq_false h10
 by_cases c1 : rows = []
 ·subst c1
  rw [decide_eq_true rfl, Bool.true_and] at e
  cases off with
  | true =>
   rw [Bool.not_true, Bool.and_false, Bool.and_false] at e
   subst e
   refine zI (cls := _root_.id) zB zD Tryz.func48 rfl (by decide) (Nat.le_of_ble_eq_true rfl) ?_
   rw [show Tryz.f48.ntmps = 82 from rfl, zC]
   simp only [List.zipIdx_cons, List.zipIdx_nil, List.map_cons, List.map_nil, Nat.reduceAdd, rR, List.map_nil]
   repeat' first | apply zg | refine zf rfl fun K E hK hE => ?_ | ((first | refine za fun κ η => ?_ | refine zo rfl fun κ η => ?_); simp only [go_sem, simprocAttr, d10, List.length_nil, Int.natCast_zero, Int.lt_irrefl]; (repeat refine ⟨by omega, ?_⟩); refine η _ ?_; clear η κ) | (refine zd (hK _ ?_); clear hE hK E K) | apply zb | refine zh true rfl (fun _ => ?_) (fun h => (by cases h)) | refine zh false rfl (fun h => (by cases h)) fun _ => ?_ | apply zi | apply zk | apply zy | (apply zm; apply zn; simp only [go_sem, simprocAttr, d10, List.length_nil, Int.natCast_zero, Int.lt_irrefl])
  | false =>
   rw [Bool.not_false, Bool.and_true] at e
   by_cases d0 : op = 0
   ·subst d0
    have e : R = decide ((ins.length : Int) = 0) := by rw [e, show opB 0 = true from rfl, show loF 0 = 0 from rfl, show hiF 0 = 0 from rfl, Bool.true_and, decide_eq_decide]; omega
    subst e
    refine zI (cls := _root_.id) zB zD Tryz.func48 rfl (by decide) (Nat.le_of_ble_eq_true rfl) ?_
    rw [show Tryz.f48.ntmps = 82 from rfl, zC]
    simp only [List.zipIdx_cons, List.zipIdx_nil, List.map_cons, List.map_nil, Nat.reduceAdd, rR, List.map_nil]
    repeat' first | apply zg | refine zf rfl fun K E hK hE => ?_ | ((first | refine za fun κ η => ?_ | refine zo rfl fun κ η => ?_); simp only [go_sem, simprocAttr, List.length_nil, Int.natCast_zero, Int.lt_irrefl, Int.reduceEq]; (repeat refine ⟨by omega, ?_⟩); refine η _ ?_; clear η κ) | (refine zd (hK _ ?_); clear hE hK E K) | apply zb | refine zh true rfl (fun _ => ?_) (fun h => (by cases h)) | refine zh false rfl (fun h => (by cases h)) fun _ => ?_ | apply zi | apply zk | apply zy | (apply zm; apply zn; simp only [go_sem, simprocAttr, List.length_nil, Int.natCast_zero, Int.lt_irrefl, Int.reduceEq])
   by_cases d1 : op = 1
   ·subst d1
    have e : R = decide ((ins.length : Int) = 0) := by rw [e, show opB 1 = true from rfl, show loF 1 = 0 from rfl, show hiF 1 = 0 from rfl, Bool.true_and, decide_eq_decide]; omega
    subst e
    refine zI (cls := _root_.id) zB zD Tryz.func48 rfl (by decide) (Nat.le_of_ble_eq_true rfl) ?_
    rw [show Tryz.f48.ntmps = 82 from rfl, zC]
    simp only [List.zipIdx_cons, List.zipIdx_nil, List.map_cons, List.map_nil, Nat.reduceAdd, rR, List.map_nil]
    repeat' first | apply zg | refine zf rfl fun K E hK hE => ?_ | ((first | refine za fun κ η => ?_ | refine zo rfl fun κ η => ?_); simp only [go_sem, simprocAttr, List.length_nil, Int.natCast_zero, Int.lt_irrefl, Int.reduceEq]; (repeat refine ⟨by omega, ?_⟩); refine η _ ?_; clear η κ) | (refine zd (hK _ ?_); clear hE hK E K) | apply zb | refine zh true rfl (fun _ => ?_) (fun h => (by cases h)) | refine zh false rfl (fun h => (by cases h)) fun _ => ?_ | apply zi | apply zk | apply zy | (apply zm; apply zn; simp only [go_sem, simprocAttr, List.length_nil, Int.natCast_zero, Int.lt_irrefl, Int.reduceEq])
   by_cases d2 : op = 2
   ·subst d2
    have e : R = decide ((ins.length : Int) = 1) := by rw [e, show opB 2 = true from rfl, show loF 2 = 1 from rfl, show hiF 2 = 1 from rfl, Bool.true_and, decide_eq_decide]; omega
    subst e
    refine zI (cls := _root_.id) zB zD Tryz.func48 rfl (by decide) (Nat.le_of_ble_eq_true rfl) ?_
    rw [show Tryz.f48.ntmps = 82 from rfl, zC]
    simp only [List.zipIdx_cons, List.zipIdx_nil, List.map_cons, List.map_nil, Nat.reduceAdd, rR, List.map_nil]
    repeat' first | apply zg | refine zf rfl fun K E hK hE => ?_ | ((first | refine za fun κ η => ?_ | refine zo rfl fun κ η => ?_); simp only [go_sem, simprocAttr, List.length_nil, Int.natCast_zero, Int.lt_irrefl, Int.reduceEq]; (repeat refine ⟨by omega, ?_⟩); refine η _ ?_; clear η κ) | (refine zd (hK _ ?_); clear hE hK E K) | apply zb | refine zh true rfl (fun _ => ?_) (fun h => (by cases h)) | refine zh false rfl (fun h => (by cases h)) fun _ => ?_ | apply zi | apply zk | apply zy | (apply zm; apply zn; simp only [go_sem, simprocAttr, List.length_nil, Int.natCast_zero, Int.lt_irrefl, Int.reduceEq])
   by_cases d3 : op = 3
   ·subst d3
    have e : R = decide ((ins.length : Int) = 1) := by rw [e, show opB 3 = true from rfl, show loF 3 = 1 from rfl, show hiF 3 = 1 from rfl, Bool.true_and, decide_eq_decide]; omega
    subst e
    refine zI (cls := _root_.id) zB zD Tryz.func48 rfl (by decide) (Nat.le_of_ble_eq_true rfl) ?_
    rw [show Tryz.f48.ntmps = 82 from rfl, zC]
    simp only [List.zipIdx_cons, List.zipIdx_nil, List.map_cons, List.map_nil, Nat.reduceAdd, rR, List.map_nil]
    repeat' first | apply zg | refine zf rfl fun K E hK hE => ?_ | ((first | refine za fun κ η => ?_ | refine zo rfl fun κ η => ?_); simp only [go_sem, simprocAttr, List.length_nil, Int.natCast_zero, Int.lt_irrefl, Int.reduceEq]; (repeat refine ⟨by omega, ?_⟩); refine η _ ?_; clear η κ) | (refine zd (hK _ ?_); clear hE hK E K) | apply zb | refine zh true rfl (fun _ => ?_) (fun h => (by cases h)) | refine zh false rfl (fun h => (by cases h)) fun _ => ?_ | apply zi | apply zk | apply zy | (apply zm; apply zn; simp only [go_sem, simprocAttr, List.length_nil, Int.natCast_zero, Int.lt_irrefl, Int.reduceEq])
   have e0 := eq_false d0
   have e1 := eq_false d1
   have e2 := eq_false d2
   have e3 := eq_false d3
   by_cases d4 : 4 ≤ op
   ·by_cases d9 : op ≤ 9
    ·have hlo : loF op = 2 := by unfold loF; rw [if_neg (by omega), if_neg (by omega), if_pos d9]
     have hhi : hiF op = 8 := by unfold hiF; rw [if_neg (by omega), if_neg (by omega)]
     rw [show opB op = true from decide_eq_true (by omega), hlo, hhi, Bool.true_and] at e
     by_cases c2 : (2 : Int) ≤ ins.length
     ·have e : R = decide ((ins.length : Int) ≤ 8) := by rw [e, decide_eq_decide]; omega
      subst e
      refine zI (cls := _root_.id) zB zD Tryz.func48 rfl (by decide) (Nat.le_of_ble_eq_true rfl) ?_
      rw [show Tryz.f48.ntmps = 82 from rfl, zC]
      simp only [List.zipIdx_cons, List.zipIdx_nil, List.map_cons, List.map_nil, Nat.reduceAdd, rR, List.map_nil]
      repeat' first | apply zg | refine zf rfl fun K E hK hE => ?_ | ((first | refine za fun κ η => ?_ | refine zo rfl fun κ η => ?_); simp only [go_sem, simprocAttr, List.length_nil, Int.natCast_zero, Int.lt_irrefl, d10, e0, e1, e2, e3, eq_true d4, eq_true d9, eq_true c2]; (repeat refine ⟨by omega, ?_⟩); refine η _ ?_; clear η κ) | (refine zd (hK _ ?_); clear hE hK E K) | apply zb | refine zh false rfl (fun h => (by cases h)) fun _ => ?_ | apply zi | apply zk | (apply zm; apply zn; simp only [go_sem, simprocAttr, List.length_nil, Int.natCast_zero, Int.lt_irrefl, d10, e0, e1, e2, e3, eq_true d4, eq_true d9, eq_true c2])
     ·rw [decide_eq_false (by omega)] at e
      subst e
      refine zI (cls := _root_.id) zB zD Tryz.func48 rfl (by decide) (Nat.le_of_ble_eq_true rfl) ?_
      rw [show Tryz.f48.ntmps = 82 from rfl, zC]
      simp only [List.zipIdx_cons, List.zipIdx_nil, List.map_cons, List.map_nil, Nat.reduceAdd, rR, List.map_nil]
      repeat' first | apply zg | refine zf rfl fun K E hK hE => ?_ | ((first | refine za fun κ η => ?_ | refine zo rfl fun κ η => ?_); simp only [go_sem, simprocAttr, List.length_nil, Int.natCast_zero, Int.lt_irrefl, d10, e0, e1, e2, e3, eq_true d4, eq_true d9, eq_false c2]; (repeat refine ⟨by omega, ?_⟩); refine η _ ?_; clear η κ) | (refine zd (hK _ ?_); clear hE hK E K) | apply zb | refine zh false rfl (fun h => (by cases h)) fun _ => ?_ | apply zi | apply zk | (apply zm; apply zn; simp only [go_sem, simprocAttr, List.length_nil, Int.natCast_zero, Int.lt_irrefl, d10, e0, e1, e2, e3, eq_true d4, eq_true d9, eq_false c2])
    ·rw [show opB op = false from decide_eq_false (by omega), Bool.false_and] at e
     subst e
     refine zI (cls := _root_.id) zB zD Tryz.func48 rfl (by decide) (Nat.le_of_ble_eq_true rfl) ?_
     rw [show Tryz.f48.ntmps = 82 from rfl, zC]
     simp only [List.zipIdx_cons, List.zipIdx_nil, List.map_cons, List.map_nil, Nat.reduceAdd, rR, List.map_nil]
     repeat' first | apply zg | refine zf rfl fun K E hK hE => ?_ | ((first | refine za fun κ η => ?_ | refine zo rfl fun κ η => ?_); simp only [go_sem, simprocAttr, List.length_nil, Int.natCast_zero, Int.lt_irrefl, d10, e0, e1, e2, e3, eq_true d4, eq_false d9]; (repeat refine ⟨by omega, ?_⟩); refine η _ ?_; clear η κ) | (refine zd (hK _ ?_); clear hE hK E K) | apply zb | refine zh false rfl (fun h => (by cases h)) fun _ => ?_ | apply zi | apply zk | (apply zm; apply zn; simp only [go_sem, simprocAttr, List.length_nil, Int.natCast_zero, Int.lt_irrefl, d10, e0, e1, e2, e3, eq_true d4, eq_false d9])
   ·rw [show opB op = false from decide_eq_false (by omega), Bool.false_and] at e
    subst e
    refine zI (cls := _root_.id) zB zD Tryz.func48 rfl (by decide) (Nat.le_of_ble_eq_true rfl) ?_
    rw [show Tryz.f48.ntmps = 82 from rfl, zC]
    simp only [List.zipIdx_cons, List.zipIdx_nil, List.map_cons, List.map_nil, Nat.reduceAdd, rR, List.map_nil]
    repeat' first | apply zg | refine zf rfl fun K E hK hE => ?_ | ((first | refine za fun κ η => ?_ | refine zo rfl fun κ η => ?_); simp only [go_sem, simprocAttr, List.length_nil, Int.natCast_zero, Int.lt_irrefl, d10, e0, e1, e2, e3, eq_false d4]; (repeat refine ⟨by omega, ?_⟩); refine η _ ?_; clear η κ) | (refine zd (hK _ ?_); clear hE hK E K) | apply zb | refine zh false rfl (fun h => (by cases h)) fun _ => ?_ | apply zi | apply zk | (apply zm; apply zn; simp only [go_sem, simprocAttr, List.length_nil, Int.natCast_zero, Int.lt_irrefl, d10, e0, e1, e2, e3, eq_false d4])
 ·rw [decide_eq_false c1, Bool.false_and, Bool.and_false, Bool.and_false] at e
  subst e
  have hp := List.length_pos_iff.2 c1
  refine zI (cls := _root_.id) zB zD Tryz.func48 rfl (by decide) (Nat.le_of_ble_eq_true rfl) ?_
  rw [show Tryz.f48.ntmps = 82 from rfl, zC]
  simp only [List.zipIdx_cons, List.zipIdx_nil, List.map_cons, List.map_nil, Nat.reduceAdd]
  repeat' first | apply zg | refine zf rfl fun K E hK hE => ?_ | ((first | refine za fun κ η => ?_ | refine zo rfl fun κ η => ?_); simp only [go_sem, simprocAttr, d10, eq_true (show (0 : Int) < rows.length by omega)]; (repeat refine ⟨by omega, ?_⟩); refine η _ ?_; clear η κ) | (refine zd (hK _ ?_); clear hE hK E K) | apply zb | refine zh true rfl (fun _ => ?_) (fun h => (by cases h)) | refine zh false rfl (fun h => (by cases h)) fun _ => ?_ | apply zi | apply zk | apply zy | (apply zm; apply zn; simp only [go_sem, simprocAttr, d10, eq_true (show (0 : Int) < rows.length by omega)])
theorem znk (s : ByteArray) (hs : s.size ≤ 140737488355328) : Ct Tryz.prog Hy 85 [.s s] [.b (zaV s)] := by
 have hl := ziz s
 refine zI (cls := _root_.id) zB zD Tryz.func85 rfl (by decide) (Nat.le_of_ble_eq_true rfl) ?_
 rw [show Tryz.f85.ntmps = 28 from rfl, zC]
 simp only [List.zipIdx_cons, List.zipIdx_nil, List.map_cons, List.map_nil, Nat.reduceAdd]
 repeat' first | apply zg | apply zj | refine zf rfl fun K E hK hE => ?_ | (refine za fun κ η => ?_; simp only [go_sem, simprocAttr]; refine η _ ?_; clear η κ) | (refine zd (hK _ ?_); clear hE hK E K) | apply zb
 refine zW (fun m s' => ∃ k : Nat, m = s.size - k ∧ k ≤ s.size ∧ (∀ (j : Nat) c, j < k → s.data.toList[j]? = some c → zbq c = true) ∧ ∃ F G0, s' = nf 28 F G0 [(0, .t (.s s)), (3, .t (.i .i64 k))] []) (s.size) ?_ ?_
 ·exact ⟨0, by omega, by omega, fun j c hj => absurd hj (Nat.not_lt_zero j), _, _, zp rfl ⟨rfl, rfl, trivial⟩ trivial⟩
 rintro m s' ⟨k, rfl, hk, hno, F, G0, rfl⟩
 repeat' first | apply zg | refine zf rfl fun K E hK hE => ?_ | (refine za fun κ η => ?_; simp only [go_sem, simprocAttr]; refine η _ ?_; clear η κ) | (refine zd (hK _ ?_); clear hE hK E K) | apply zb
 refine zh _ rfl (fun hq => ?_) (fun hq => ?_)
 ·simp only [decide_eq_true_eq] at hq
  obtain ⟨c, hc⟩ : ∃ c, s.data.toList[k]? = some c := ⟨_, List.getElem?_eq_getElem (by omega)⟩
  have hbad : zbq c = false → zaV s = false := fun h => by
   have : s.data.toList.all zbq = false := List.all_eq_false.2 ⟨c, List.mem_of_getElem? hc, by rw [h]; decide⟩
   rw [zaV, this, Bool.and_false, Bool.and_false]
  by_cases d1 : c.toNat < 33
  ·have d1' : ((c.toNat : Int) < 33) = True := eq_true (by omega)
   repeat' first | apply zg | apply zj | refine zf rfl fun K E hK hE => ?_ | ((first | refine za fun κ η => ?_ | refine zo rfl fun κ η => ?_); simp only [go_sem, simprocAttr, hc, Int.toNat_natCast, d1']; (repeat refine ⟨by omega, ?_⟩); refine η _ ?_; clear η κ) | (refine zd (hK _ ?_); clear hE hK E K) | apply zb | refine zh true rfl (fun _ => ?_) (fun h => (by cases h)) | apply zi | apply zk | apply zy | apply zJ | apply zL | (apply zm; apply zn; simp only [go_sem, simprocAttr, hc, Int.toNat_natCast, d1'])
   rw [hbad (by rw [zbq, decide_eq_false (by omega)]; rfl)]
  have d1' : ((c.toNat : Int) < 33) = False := eq_false (by omega)
  by_cases d2 : 126 < c.toNat
  ·have d2' : ((126 : Int) < c.toNat) = True := eq_true (by omega)
   repeat' first | apply zg | apply zj | refine zf rfl fun K E hK hE => ?_ | ((first | refine za fun κ η => ?_ | refine zo rfl fun κ η => ?_); simp only [go_sem, simprocAttr, hc, Int.toNat_natCast, d1', d2']; (repeat refine ⟨by omega, ?_⟩); refine η _ ?_; clear η κ) | (refine zd (hK _ ?_); clear hE hK E K) | apply zb | refine zh true rfl (fun _ => ?_) (fun h => (by cases h)) | apply zi | apply zk | apply zy | apply zJ | apply zL | (apply zm; apply zn; simp only [go_sem, simprocAttr, hc, Int.toNat_natCast, d1', d2'])
   rw [hbad (by rw [zbq, decide_eq_false (show ¬ c.toNat ≤ 126 by omega), Bool.and_false])]
  ·have d2' : ((126 : Int) < c.toNat) = False := eq_false (by omega)
   repeat' first | apply zg | apply zj | refine zf rfl fun K E hK hE => ?_ | ((first | refine za fun κ η => ?_ | refine zo rfl fun κ η => ?_); simp only [go_sem, simprocAttr, hc, Int.toNat_natCast, d1', d2']; (repeat refine ⟨by omega, ?_⟩); refine η _ ?_; clear η κ) | (refine zd (hK _ ?_); clear hE hK E K) | apply zb | refine zh false rfl (fun h => (by cases h)) fun _ => ?_ | apply zq | apply zi | apply zs
   refine ⟨s.size - (k + 1), by omega, k + 1, rfl, by omega, fun j y hj hy => ?_, _, _, zp rfl ⟨rfl, rfl, trivial⟩ trivial⟩
   rcases Nat.lt_or_eq_of_le (Nat.lt_succ_iff.1 hj) with h | rfl
   ·exact hno j y h hy
   ·rw [hc] at hy; cases hy
    rw [zbq, decide_eq_true (by omega), decide_eq_true (by omega)]
    rfl
 ·simp only [decide_eq_false_iff_not] at hq
  have hnb : zaV s = (decide (1 ≤ s.size) && decide (s.size ≤ 40)) := by
   have : s.data.toList.all zbq = true := List.all_eq_true.2 fun c hc => by
    obtain ⟨j, hj⟩ := List.getElem?_of_mem hc
    have := (List.getElem?_eq_some_iff.1 hj).1
    exact hno j c (by omega) hj
   rw [zaV, this, Bool.and_true]
  by_cases c1 : (1 : Int) ≤ s.size
  ·rw [hnb, decide_eq_true (show 1 ≤ s.size by omega), Bool.true_and, show decide (s.size ≤ 40) = decide ((s.size : Int) ≤ 40) by rw [decide_eq_decide]; omega]
   repeat' first | apply zg | refine zf rfl fun K E hK hE => ?_ | ((first | refine za fun κ η => ?_ | refine zo rfl fun κ η => ?_); simp only [go_sem, simprocAttr, eq_true c1]; refine η _ ?_; clear η κ) | (refine zd (hK _ ?_); clear hE hK E K) | apply zb | apply zt | apply zk | apply zu | apply zw | apply zx | (apply zm; apply zn; simp only [go_sem, simprocAttr, eq_true c1])
  ·rw [hnb, decide_eq_false (show ¬ 1 ≤ s.size by omega), Bool.false_and]
   repeat' first | apply zg | refine zf rfl fun K E hK hE => ?_ | ((first | refine za fun κ η => ?_ | refine zo rfl fun κ η => ?_); simp only [go_sem, simprocAttr, eq_false c1]; refine η _ ?_; clear η κ) | (refine zd (hK _ ?_); clear hE hK E K) | apply zb | apply zt | apply zk | apply zu | apply zw | apply zx | (apply zm; apply zn; simp only [go_sem, simprocAttr, eq_false c1])
theorem znl (l : List ByteArray) (k : Nat) : (sR l).take k = sR (l.take k) := List.map_take.symm
def twS (l : List ByteArray) : ByteArray × Bool := match zbu [] l with
 | some s => (s, true)
 | none => (zba, false)
theorem znm {l : List ByteArray} {k : Nat} {x : ByteArray} (hno : ∀ (j : Nat) y, j < k → l[j]? = some y → y ∉ l.take j) (hx : l[k]? = some x) (hm : x ∈ l.take k) : twS l = (x, true) := by
 have := ziD hno hx hm
 unfold zaL at this
 unfold twS
 cases h : zbu [] l with
 | none => rw [h] at this; cases this
 | some s => rw [h] at this; cases this; rfl
theorem znn {l : List ByteArray} (hno : ∀ (j : Nat) y, j < l.length → l[j]? = some y → y ∉ l.take j) : twS l = (zba, false) := by
 have := ziE hno
 unfold zaL at this
 unfold twS
 cases h : zbu [] l with
 | none => rfl
 | some s => rw [h] at this; cases this
theorem zi6 (l : List ByteArray) (hl : l.length ≤ 1000000) : Ct Tryz.prog Hy 86 [.sl (sR l)] [.s (twS l).1, .b (twS l).2] := by
 refine zI (cls := _root_.id) zB zD Tryz.func86 rfl (by decide) (Nat.le_of_ble_eq_true rfl) ?_
 rw [show Tryz.f86.ntmps = 23 from rfl, zC]
 simp only [List.zipIdx_cons, List.zipIdx_nil, List.map_cons, List.map_nil, Nat.reduceAdd]
 repeat' first | apply zg | apply zj | refine zf rfl fun K E hK hE => ?_ | (refine za fun κ η => ?_; simp only [go_sem, simprocAttr]; refine η _ ?_; clear η κ) | (refine zd (hK _ ?_); clear hE hK E K) | apply zb
 refine zW (fun m s' => ∃ k : Nat, m = l.length - k ∧ k ≤ l.length ∧ (∀ (j : Nat) y, j < k → l[j]? = some y → y ∉ l.take j) ∧ ∃ F G0, s' = nf 23 F G0 [(0, .t (.sl (sR l))), (4, .t (.i .i64 k))] []) (l.length) ?_ ?_
 ·exact ⟨0, by omega, by omega, fun j x hj => absurd hj (Nat.not_lt_zero j), _, _, zp rfl ⟨rfl, rfl, trivial⟩ trivial⟩
 rintro m s' ⟨k, rfl, hk, hno, F, G0, rfl⟩
 repeat' first | apply zg | refine zf rfl fun K E hK hE => ?_ | (refine za fun κ η => ?_; simp only [go_sem, simprocAttr]; refine η _ ?_; clear η κ) | (refine zd (hK _ ?_); clear hE hK E K) | apply zb
 refine zh _ rfl (fun hq => ?_) (fun hq => ?_)
 ·simp only [decide_eq_true_eq] at hq
  obtain ⟨x, hx⟩ : ∃ x, l[k]? = some x := ⟨_, List.getElem?_eq_getElem (by omega)⟩
  have hx' := za5 hx
  have hso := eq_true (zbs l)
  have hh := zgm Hy (l.take k) x (by rw [List.length_take]; omega)
  have htk := znl l k
  by_cases hm : x ∈ l.take k
  ·rw [decide_eq_true hm] at hh
   repeat' first | apply zg | apply zj | refine zG rfl (by kernel_rfl) fun K E hK hE => ?_ | (refine zr (by kernel_rfl) fun κ η => ?_; simp only [go_sem, simprocAttr, hx', hso, htk, List.drop_zero, Int.toNat_natCast, Int.sub_zero, Nat.sub_zero, Int.toNat_zero]; (repeat refine ⟨by omega, ?_⟩); refine η _ ?_; clear η κ) | apply zb | apply zi
   refine zr (by kernel_rfl) fun κ η => ?_; simp only [go_sem, simprocAttr]; refine ⟨_, hh, ?_⟩; simp only [go_sem, simprocAttr]; refine η _ ?_; clear η κ
   repeat' first | apply zg | refine zf rfl fun K E hK hE => ?_ | (refine za fun κ η => ?_; simp only [go_sem, simprocAttr, hx']; (repeat refine ⟨by omega, ?_⟩); refine η _ ?_; clear η κ) | (refine zd (hK _ ?_); clear hE hK E K) | apply zb | refine zh true rfl (fun _ => ?_) (fun h => (by cases h)) | (refine zH (hK _ ?_); clear hE hK E K) | apply zk | apply zy | apply zJ | apply zL | (apply zm; apply zn; simp only [go_sem, simprocAttr, hx'])
   rw [znm hno hx hm]
  ·rw [decide_eq_false hm] at hh
   repeat' first | apply zg | apply zj | refine zG rfl (by kernel_rfl) fun K E hK hE => ?_ | (refine zr (by kernel_rfl) fun κ η => ?_; simp only [go_sem, simprocAttr, hx', hso, htk, List.drop_zero, Int.toNat_natCast, Int.sub_zero, Nat.sub_zero, Int.toNat_zero]; (repeat refine ⟨by omega, ?_⟩); refine η _ ?_; clear η κ) | apply zb | apply zi
   refine zr (by kernel_rfl) fun κ η => ?_; simp only [go_sem, simprocAttr]; refine ⟨_, hh, ?_⟩; simp only [go_sem, simprocAttr]; refine η _ ?_; clear η κ
   repeat' first | refine zf rfl fun K E hK hE => ?_ | (refine za fun κ η => ?_; simp only [go_sem, simprocAttr]; (repeat refine ⟨by omega, ?_⟩); refine η _ ?_; clear η κ) | (refine zd (hK _ ?_); clear hE hK E K) | apply zb | refine zh false rfl (fun h => (by cases h)) fun _ => ?_ | (refine zH (hK _ ?_); clear hE hK E K) | apply zq | apply zi | apply zs
   refine ⟨l.length - (k + 1), by omega, k + 1, rfl, by omega, fun j y hj hy => ?_, _, _, zp rfl ⟨rfl, rfl, trivial⟩ trivial⟩
   rcases Nat.lt_or_eq_of_le (Nat.lt_succ_iff.1 hj) with h | rfl
   ·exact hno j y h hy
   ·rw [hx] at hy; cases hy; exact hm
 ·simp only [decide_eq_false_iff_not] at hq
  repeat' first | apply zg | refine zf rfl fun K E hK hE => ?_ | (refine za fun κ η => ?_; simp only [go_sem, simprocAttr]; refine η _ ?_; clear η κ) | (refine zd (hK _ ?_); clear hE hK E K) | apply zb | apply zt | apply zk | apply zu | apply zw | apply zx | (apply zm; apply zn; simp only [go_sem, simprocAttr])
  rw [znn fun j y hj => hno j y (by omega)]
  rfl
end Go.Proofs.YtbhoeanfnbkenaaGreatDoor
