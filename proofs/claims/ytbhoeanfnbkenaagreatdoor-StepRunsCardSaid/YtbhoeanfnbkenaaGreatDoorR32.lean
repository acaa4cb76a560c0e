import Derived.Test.YtbhoeanfnbkenaaGreatDoorR2
import Derived.Test.YtbhoeanfnbkenaaGreatDoorR10
import Derived.Test.YtbhoeanfnbkenaaGreatDoorR12
namespace Go.Proofs.YtbhoeanfnbkenaaGreatDoor
open Go.RowKit Go.WideMaps
set_option maxRecDepth 100000
set_option linter.unusedSimpArgs false
variable (Hy : World → Prop)
attribute [local irreducible] zU zY cwp z1 z6 lpQ z8 asQ bdQ bdY zab zac zad zaa
theorem zgm (l : List ByteArray) (s : ByteArray) (h : l.length ≤ 140737488355328) : Ct Tryz.prog Hy 88 [.sl (sR l), .s s] [.b (decide (s ∈ l))] := by
 refine zI (cls := _root_.id) zB zD Tryz.func88 rfl (by decide) (Nat.le_of_ble_eq_true rfl) ?_
 rw [show Tryz.f88.ntmps = 18 from rfl, zC]
 simp only [List.zipIdx_cons, List.zipIdx_nil, List.map_cons, List.map_nil, Nat.reduceAdd]
 repeat' first | apply zg | apply zj | refine zf rfl fun K E hK hE => ?_ | (refine za fun κ η => ?_; simp only [go_sem, simprocAttr]; refine η _ ?_; clear η κ) | (refine zd (hK _ ?_); clear hE hK E K) | apply zb
 refine zW (fun m s' => ∃ k : Nat, m = l.length - k ∧ k ≤ l.length ∧ (∀ (j : Nat) y, j < k → l[j]? = some y → y ≠ s) ∧ ∃ F G0, s' = nf 18 F G0 [(0, .t (.sl (sR l))), (1, .t (.s s)), (5, .t (.i .i64 k))] []) (l.length) ?_ ?_
 ·exact ⟨0, by omega, by omega, fun j x hj => absurd hj (Nat.not_lt_zero j), _, _, zp rfl ⟨rfl, rfl, rfl, trivial⟩ trivial⟩
 rintro m s' ⟨k, rfl, hk, hno, F, G0, rfl⟩
 repeat' first | apply zg | refine zf rfl fun K E hK hE => ?_ | (refine za fun κ η => ?_; simp only [go_sem, simprocAttr]; refine η _ ?_; clear η κ) | (refine zd (hK _ ?_); clear hE hK E K) | apply zb
 refine zh _ rfl (fun hq => ?_) (fun hq => ?_)
 ·simp only [decide_eq_true_eq] at hq
  obtain ⟨x, hx⟩ : ∃ x, l[k]? = some x := ⟨_, List.getElem?_eq_getElem (by omega)⟩
  have hx' := za5 hx
  by_cases hxa : x = s
  ·repeat' first | apply zg | apply zj | refine zf rfl fun K E hK hE => ?_ | (refine za fun κ η => ?_; simp only [go_sem, simprocAttr, hx', eq_true hxa]; (repeat refine ⟨by omega, ?_⟩); refine η _ ?_; clear η κ) | (refine zd (hK _ ?_); clear hE hK E K) | apply zb | refine zh true rfl (fun _ => ?_) (fun h => (by cases h)) | apply zi | apply zk | apply zy | apply zJ | apply zL | (apply zm; apply zn; simp only [go_sem, simprocAttr, hx', eq_true hxa])
   rw [decide_eq_true (hxa ▸ List.mem_of_getElem? hx)]
  ·repeat' first | apply zg | apply zj | refine zf rfl fun K E hK hE => ?_ | (refine za fun κ η => ?_; simp only [go_sem, simprocAttr, hx', eq_false hxa]; (repeat refine ⟨by omega, ?_⟩); refine η _ ?_; clear η κ) | (refine zd (hK _ ?_); clear hE hK E K) | apply zb | refine zh false rfl (fun h => (by cases h)) fun _ => ?_ | apply zq | apply zi | apply zs
   refine ⟨l.length - (k + 1), by omega, k + 1, rfl, by omega, fun j y hj hy => ?_, _, _, zp rfl ⟨rfl, rfl, rfl, trivial⟩ trivial⟩
   rcases Nat.lt_or_eq_of_le (Nat.lt_succ_iff.1 hj) with h | rfl
   ·exact hno j y h hy
   ·rw [hx] at hy; cases hy; exact hxa
 ·simp only [decide_eq_false_iff_not] at hq
  repeat' first | apply zg | refine zf rfl fun K E hK hE => ?_ | (refine za fun κ η => ?_; simp only [go_sem, simprocAttr]; refine η _ ?_; clear η κ) | (refine zd (hK _ ?_); clear hE hK E K) | apply zb | apply zt | apply zk | apply zu | apply zw | apply zx | (apply zm; apply zn; simp only [go_sem, simprocAttr])
  rw [decide_eq_false]
  intro hm
  obtain ⟨j, hj⟩ := List.getElem?_of_mem hm
  have := (List.getElem?_eq_some_iff.1 hj).1
  exact hno j s (by omega) hj rfl
end Go.Proofs.YtbhoeanfnbkenaaGreatDoor
namespace Go.Proofs.YtbhoeanfnbkenaaGreatDoor
open Go.RowKit Go.WideMaps
set_option maxRecDepth 100000
set_option linter.unusedSimpArgs false
variable (Hy : World → Prop)
attribute [local irreducible] zU zY cwp z1 z6 lpQ z8 asQ bdQ bdY zab zac zad zaa
end Go.Proofs.YtbhoeanfnbkenaaGreatDoor
namespace Go.Proofs.YtbhoeanfnbkenaaGreatDoor
open Go.RowKit Go.WideMaps
set_option maxRecDepth 100000
set_option linter.unusedSimpArgs false
variable (Hy : World → Prop)
attribute [local irreducible] zU zY cwp z1 z6 lpQ z8 asQ bdQ bdY zab zac zad zaa
theorem zjl (l : List Row) : rR l = sR (l.map mk) := by
 unfold rR sR
 rw [List.map_map]
 rfl
end Go.Proofs.YtbhoeanfnbkenaaGreatDoor
namespace Go.Proofs.YtbhoeanfnbkenaaGreatDoor
open Go.RowKit
set_option maxRecDepth 100000
set_option linter.unusedSimpArgs false
variable (Hy : World → Prop)
attribute [local irreducible] zU zY cwp z1 z6 lpQ z8 asQ bdQ bdY zab zac zad zaa
def zaR (l : List ByteArray) (k : Nat) : Bool := decide (l.length ≤ k) && l.all fun s => decide (s.size ≤ 60)
set_option maxHeartbeats 2000000 in
theorem zea (l : List ByteArray) (k : Nat) (hk : k ≤ 1000) : Ct Tryz.prog Hy 35 [.sl (sR l), .i .i64 k] [.b (zaR l k)] := by
 obtain ⟨R, hR⟩ : ∃ R, R = zaR l k := ⟨_, rfl⟩
 rw [← hR]
 refine zI (cls := _root_.id) zB zD Tryz.func35 rfl (by decide) (Nat.le_of_ble_eq_true rfl) ?_
 rw [show Tryz.f35.ntmps = 27 from rfl, zC]
 simp only [List.zipIdx_cons, List.zipIdx_nil, List.map_cons, List.map_nil, Nat.reduceAdd]
 repeat' first | apply zg | apply zj | refine zf rfl fun K E hK hE => ?_ | (refine za fun κ η => ?_; simp only [go_sem, simprocAttr]; refine η _ ?_; clear η κ) | (refine zd (hK _ ?_); clear hE hK E K) | apply zb
 refine zW (fun m s' => ∃ i : Nat, m = k + 1 - i ∧ i ≤ k + 1 ∧ i ≤ l.length ∧ (∀ (j : Nat) r, j < i → l[j]? = some r → r.size ≤ 60) ∧ ∃ F G0, s' = nf 27 F G0 [(0, .t (.sl (sR l))), (1, .t (.i .i64 k)), (5, .t (.i .i64 i))] []) (k + 1) ?_ ?_
 ·exact ⟨0, by omega, by omega, by omega, fun j r hj => absurd hj (Nat.not_lt_zero j), _, _, zp rfl ⟨rfl, rfl, rfl, trivial⟩ trivial⟩
 rintro m s' ⟨i, rfl, hi1, hi2, hno, F, G0, rfl⟩
 by_cases c1 : (i : Int) < l.length
 ·have c1' := eq_true c1
  by_cases c2 : (i : Int) ≤ k
  ·obtain ⟨r, hr⟩ : ∃ r, l[i]? = some r := ⟨_, List.getElem?_eq_getElem (by omega)⟩
   have hr' := za5 hr
   have c2' := eq_true c2
   by_cases c3 : (60 : Int) < r.size
   ·have hb : zaR l k = false := by
     unfold zaR
     rw [Bool.and_eq_false_iff]
     refine .inr ?_
     rw [List.all_eq_false]
     exact ⟨r, List.mem_of_getElem? hr, by simp; omega⟩
    obtain rfl : R = false := hR.trans hb
    have c3' := eq_true c3
    repeat' first | apply zg | apply zj | refine zf rfl fun K E hK hE => ?_ | ((first | refine za fun κ η => ?_ | refine zo rfl fun κ η => ?_); simp only [go_sem, simprocAttr, c1', c2', hr', c3']; (repeat refine ⟨by omega, ?_⟩); refine η _ ?_; clear η κ) | (refine zd (hK _ ?_); clear hE hK E K) | apply zb | refine zh true rfl (fun _ => ?_) (fun h => (by cases h)) | apply zi | apply zk | apply zy | apply zJ | apply zL | (apply zm; apply zn; simp only [go_sem, simprocAttr, c1', c2', hr', c3'])
   ·have c3' := eq_false c3
    repeat' first | apply zg | apply zj | refine zf rfl fun K E hK hE => ?_ | ((first | refine za fun κ η => ?_ | refine zo rfl fun κ η => ?_); simp only [go_sem, simprocAttr, c1', c2', hr', c3']; (repeat refine ⟨by omega, ?_⟩); refine η _ ?_; clear η κ) | (refine zd (hK _ ?_); clear hE hK E K) | apply zb | refine zh true rfl (fun _ => ?_) (fun h => (by cases h)) | refine zh false rfl (fun h => (by cases h)) fun _ => ?_ | apply zq | apply zi | apply zs
    refine ⟨k + 1 - (i + 1), by omega, i + 1, rfl, by omega, by omega, fun j y hj hy => ?_, _, _, zp rfl ⟨rfl, rfl, rfl, trivial⟩ trivial⟩
    rcases Nat.lt_or_eq_of_le (Nat.lt_succ_iff.1 hj) with h | rfl
    ·exact hno j y h hy
    ·rw [hr] at hy
     cases hy
     omega
  ·have hb : zaR l k = false := by
    unfold zaR
    rw [decide_eq_false (by omega)]
    rfl
   have c4 : ((l.length : Int) ≤ k) = False := eq_false (by omega)
   obtain rfl : R = false := hR.trans hb
   have c2' := eq_false c2
   repeat' first | apply zg | refine zf rfl fun K E hK hE => ?_ | ((first | refine za fun κ η => ?_ | refine zo rfl fun κ η => ?_); simp only [go_sem, simprocAttr, c1', c2', c4]; refine η _ ?_; clear η κ) | (refine zd (hK _ ?_); clear hE hK E K) | apply zb | refine zh false rfl (fun h => (by cases h)) fun _ => ?_ | apply zt | apply zk | apply zu | apply zw | apply zx | (apply zm; apply zn; simp only [go_sem, simprocAttr, c1', c2', c4])
 ·have hall : l.all (fun r => decide (r.size ≤ 60)) = true := by
   rw [List.all_eq_true]
   intro r hr
   obtain ⟨j, hj⟩ := List.getElem?_of_mem hr
   have := (List.getElem?_eq_some_iff.1 hj).1
   exact decide_eq_true (hno j r (by omega) hj)
  have hb : zaR l k = decide ((l.length : Int) ≤ k) := by
   unfold zaR
   rw [hall, Bool.and_true, decide_eq_decide]
   omega
  obtain rfl : R = decide ((l.length : Int) ≤ k) := hR.trans hb
  have c1' := eq_false c1
  repeat' first | apply zg | refine zf rfl fun K E hK hE => ?_ | ((first | refine za fun κ η => ?_ | refine zo rfl fun κ η => ?_); simp only [go_sem, simprocAttr, c1']; refine η _ ?_; clear η κ) | (refine zd (hK _ ?_); clear hE hK E K) | apply zb | refine zh false rfl (fun h => (by cases h)) fun _ => ?_ | apply zt | apply zk | apply zu | apply zw | apply zx | (apply zm; apply zn; simp only [go_sem, simprocAttr, c1'])
def zco (g : Gt) : Bool := zaR g.ins 12 && (zaR (g.rows.map mk) 140 && decide (g.name.size ≤ 60))
def zbX (x : La) : Bool := decide (x.name.size ≤ 60) && decide (x.next.size ≤ 60)
def zcp (c : Ci) : Bool := (c.gts.all zco && c.las.all zbX) && (zaR c.ins 210 && (zaR c.outs 210 && (decide (c.gts.length ≤ 210) && decide (c.las.length ≤ 210))))
set_option maxHeartbeats 2000000 in
theorem zjm (g : Gt) : Ct Tryz.prog Hy 21 [.ag (gT g)] [.b (zco g)] := by
 have h1 := zea Hy g.ins 12 (by decide)
 have h2 := zea Hy (g.rows.map mk) 140 (by decide)
 rw [← zjl] at h2
 have hn : decide ((g.name.size : Int) ≤ 60) = decide (g.name.size ≤ 60) := decide_eq_decide.2 (by omega)
 unfold zco
 generalize zaR g.ins 12 = b1 at *
 generalize zaR (g.rows.map mk) 140 = b2 at *
 rw [← hn]
 obtain ⟨name, op, ins, rows, off⟩ := g
 simp only at h1 h2 ⊢
 cases b1 <;> cases b2 <;>
 ·refine zI (cls := _root_.id) zB zD Tryz.func21 rfl (by decide) (Nat.le_of_ble_eq_true rfl) ?_
  rw [show Tryz.f21.ntmps = 21 from rfl, zC]
  simp only [List.zipIdx_cons, List.zipIdx_nil, List.map_cons, List.map_nil, Nat.reduceAdd, gT]
  repeat' first | apply zg | refine zf rfl fun K E hK hE => ?_ | (refine za fun κ η => ?_; simp only [go_sem, simprocAttr]; (repeat refine ⟨by omega, ?_⟩); refine η _ ?_; clear η κ) | (refine zd (hK _ ?_); clear hE hK E K) | apply zb
  refine za fun κ η => ?_; simp only [go_sem, simprocAttr]; refine ⟨_, h1, ?_⟩; simp only [go_sem, simprocAttr]; refine η _ ?_; clear η κ
  repeat' first | apply zg | refine zf rfl fun K E hK hE => ?_ | (refine za fun κ η => ?_; simp only [go_sem, simprocAttr]; (repeat refine ⟨by omega, ?_⟩); refine η _ ?_; clear η κ) | (refine zd (hK _ ?_); clear hE hK E K) | apply zb
  refine za fun κ η => ?_; simp only [go_sem, simprocAttr]; refine ⟨_, h2, ?_⟩; simp only [go_sem, simprocAttr]; refine η _ ?_; clear η κ
  repeat' first | apply zg | refine zf rfl fun K E hK hE => ?_ | ((first | refine za fun κ η => ?_ | refine zo rfl fun κ η => ?_); simp only [go_sem, simprocAttr]; (repeat refine ⟨by omega, ?_⟩); refine η _ ?_; clear η κ) | (refine zd (hK _ ?_); clear hE hK E K) | apply zb | apply zk | (apply zm; apply zn; simp only [go_sem, simprocAttr])
theorem zgn {α : Type} {p : α → Bool} {l : List α} {i : Nat} (h : ∀ (j : Nat) r, j < i → l[j]? = some r → p r = true) (hi : l.length ≤ i) : l.all p = true := by
 rw [List.all_eq_true]
 intro r hr
 obtain ⟨j, hj⟩ := List.getElem?_of_mem hr
 exact h j r (by have := (List.getElem?_eq_some_iff.1 hj).1; omega) hj
theorem zeX {α : Type} {p : α → Bool} {l : List α} {r : α} (hr : r ∈ l) (h : p r = false) : l.all p = false := by
 rw [List.all_eq_false]
 exact ⟨r, hr, by rw [h]; decide⟩
theorem zgo {α : Type} {p : α → Bool} {l : List α} {i : Nat} {x : α} (h : ∀ (j : Nat) r, j < i → l[j]? = some r → p r = true) (hx : l[i]? = some x) (hp : p x = true) : ∀ (j : Nat) r, j < i + 1 → l[j]? = some r → p r = true := fun j r hj hr => by
 rcases Nat.lt_or_eq_of_le (Nat.lt_succ_iff.1 hj) with h1 | rfl
 ·exact h j r h1 hr
 ·rw [hx] at hr
  cases hr
  exact hp
set_option maxHeartbeats 4000000 in
theorem zjn (c : Ci) : Ct Tryz.prog Hy 24 [.ag (cE c)] [.b (zcp c)] := by
 have hi := zea Hy c.ins 210 (by decide)
 have ho := zea Hy c.outs 210 (by decide)
 have hg := fun g => zjm Hy g
 obtain ⟨R, hR⟩ : ∃ R, R = zcp c := ⟨_, rfl⟩
 rw [← hR]
 unfold zcp at hR
 obtain ⟨ins, outs, las, gts⟩ := c
 simp only at hi ho hR
 refine zI (cls := _root_.id) zB zD Tryz.func24 rfl (by decide) (Nat.le_of_ble_eq_true rfl) ?_
 rw [show Tryz.f24.ntmps = 78 from rfl, zC]
 simp only [List.zipIdx_cons, List.zipIdx_nil, List.map_cons, List.map_nil, Nat.reduceAdd, cE]
 apply zg
 repeat' first | refine zf rfl fun K E hK hE => ?_ | (refine za fun κ η => ?_; simp only [go_sem, simprocAttr]; refine η _ ?_; clear η κ) | (refine zd (hK _ ?_); clear hE hK E K) | apply zb
 refine zcv (fun s => ∃ F G1, s = nf 78 F G1 [(1, .ptr 1 1 0)] [] ∧ G1 1 = ⟨1, .cells 26 [.t (.sl (sR ins)), .t (.sl (sR outs)), .t (.sl (lsR las)), .t (.sl (gsR gts))]⟩ ∧ (gts.length ≤ 210 → gts.all zco = true)) ?_ ?_
 rotate_left
 ·intro N hN
  have go : True := trivial
  ·repeat' first | apply zg | apply zj | refine zf rfl fun K E hK hE => ?_ | (refine za fun κ η => ?_; simp only [go_sem, simprocAttr]; refine η _ ?_; clear η κ) | (refine zd (hK _ ?_); clear hE hK E K) | apply zb
   refine zW (fun m s' => ∃ i : Nat, m = 211 - i ∧ i ≤ 211 ∧ i ≤ gts.length ∧ (∀ (j : Nat) r, j < i → gts[j]? = some r → zco r = true) ∧ ∃ F G0, s' = nf 78 F G0 [(1, .ptr 1 1 0), (3, .t (.i .i64 i))] [] ∧ G0 1 = ⟨1, .cells 26 [.t (.sl (sR ins)), .t (.sl (sR outs)), .t (.sl (lsR las)), .t (.sl (gsR gts))]⟩) 211 ?_ ?_
   ·exact ⟨0, by omega, by omega, by omega, fun j r hj => absurd hj (Nat.not_lt_zero j), _, _, zp rfl ⟨rfl, rfl, trivial⟩ trivial, rfl⟩
   rintro m s' ⟨i, rfl, hi1, hi2, hno, F, G0, rfl, b1⟩
   by_cases c1 : (i : Int) < gts.length
   ·have c1' := eq_true c1
    by_cases c2 : (i : Int) ≤ 210
    ·have c2' := eq_true c2
     obtain ⟨x, hx⟩ : ∃ x, gts[i]? = some x := ⟨_, List.getElem?_eq_getElem (by omega)⟩
     have hx' := zaQ hx
     have hgx := hg x
     simp only [gT] at hgx
     cases hf : zco x with
     | false =>
      obtain rfl : R = false := by rw [hR, zeX (List.mem_of_getElem? hx) hf]; rfl
      rw [hf] at hgx
      repeat' first | apply zg | apply zj | refine zf rfl fun K E hK hE => ?_ | ((first | refine za fun κ η => ?_ | refine zo rfl fun κ η => ?_); simp only [go_sem, simprocAttr, b1, c1', c2', hx']; (repeat refine ⟨by omega, ?_⟩); refine η _ ?_; clear η κ) | (refine zd (hK _ ?_); clear hE hK E K) | apply zb | refine zh true rfl (fun _ => ?_) (fun h => (by cases h)) | apply zi
      refine za fun κ η => ?_; simp only [go_sem, simprocAttr]; refine ⟨_, hgx, ?_⟩; simp only [go_sem, simprocAttr]; refine η _ ?_; clear η κ
      repeat' first | apply zg | refine zf rfl fun K E hK hE => ?_ | (refine za fun κ η => ?_; simp only [go_sem, simprocAttr]; refine η _ ?_; clear η κ) | (refine zd (hK _ ?_); clear hE hK E K) | apply zb | refine zh true rfl (fun _ => ?_) (fun h => (by cases h)) | apply zk | apply zy | apply zJ | apply zL | (apply zm; apply zn; simp only [go_sem, simprocAttr])
     | true =>
      rw [hf] at hgx
      repeat' first | apply zg | apply zj | refine zf rfl fun K E hK hE => ?_ | ((first | refine za fun κ η => ?_ | refine zo rfl fun κ η => ?_); simp only [go_sem, simprocAttr, b1, c1', c2', hx']; (repeat refine ⟨by omega, ?_⟩); refine η _ ?_; clear η κ) | (refine zd (hK _ ?_); clear hE hK E K) | apply zb | refine zh true rfl (fun _ => ?_) (fun h => (by cases h)) | apply zi
      refine za fun κ η => ?_; simp only [go_sem, simprocAttr]; refine ⟨_, hgx, ?_⟩; simp only [go_sem, simprocAttr]; refine η _ ?_; clear η κ
      repeat' first | apply zg | refine zf rfl fun K E hK hE => ?_ | (refine za fun κ η => ?_; simp only [go_sem, simprocAttr]; (repeat refine ⟨by omega, ?_⟩); refine η _ ?_; clear η κ) | (refine zd (hK _ ?_); clear hE hK E K) | apply zb | refine zh false rfl (fun h => (by cases h)) fun _ => ?_ | apply zq | apply zi | apply zs
      exact ⟨211 - (i + 1), by omega, i + 1, rfl, by omega, by omega, zgo hno hx hf, _, _, zp rfl ⟨rfl, rfl, trivial⟩ trivial, b1⟩
    ·have c2' := eq_false c2
     repeat' first | apply zg | refine zf rfl fun K E hK hE => ?_ | ((first | refine za fun κ η => ?_ | refine zo rfl fun κ η => ?_); simp only [go_sem, simprocAttr, b1, c1', c2']; (repeat refine ⟨by omega, ?_⟩); refine η _ ?_; clear η κ) | (refine zd (hK _ ?_); clear hE hK E K) | apply zb | refine zh false rfl (fun h => (by cases h)) fun _ => ?_ | apply zt | apply zu | apply zw | apply zx
     exact hN _ ⟨_, _, zp rfl ⟨rfl, trivial⟩ trivial, b1, fun h => absurd h (by omega)⟩
   ·have c1' := eq_false c1
    repeat' first | apply zg | refine zf rfl fun K E hK hE => ?_ | ((first | refine za fun κ η => ?_ | refine zo rfl fun κ η => ?_); simp only [go_sem, simprocAttr, b1, c1']; (repeat refine ⟨by omega, ?_⟩); refine η _ ?_; clear η κ) | (refine zd (hK _ ?_); clear hE hK E K) | apply zb | refine zh false rfl (fun h => (by cases h)) fun _ => ?_ | apply zt | apply zu | apply zw | apply zx
    exact hN _ ⟨_, _, zp rfl ⟨rfl, trivial⟩ trivial, b1, fun _ => zgn hno (by omega)⟩
 rintro s ⟨F, G1, rfl, b1, hga⟩
 refine zcv (fun s => ∃ F G1, s = nf 78 F G1 [(1, .ptr 1 1 0)] [] ∧ G1 1 = ⟨1, .cells 26 [.t (.sl (sR ins)), .t (.sl (sR outs)), .t (.sl (lsR las)), .t (.sl (gsR gts))]⟩ ∧ (las.length ≤ 210 → las.all zbX = true)) ?_ ?_
 rotate_left
 ·intro N hN
  have b0 := b1
  ·repeat' first | apply zg | apply zj | refine zf rfl fun K E hK hE => ?_ | (refine za fun κ η => ?_; simp only [go_sem, simprocAttr]; refine η _ ?_; clear η κ) | (refine zd (hK _ ?_); clear hE hK E K) | apply zb
   refine zW (fun m s' => ∃ i : Nat, m = 211 - i ∧ i ≤ 211 ∧ i ≤ las.length ∧ (∀ (j : Nat) r, j < i → las[j]? = some r → zbX r = true) ∧ ∃ F G0, s' = nf 78 F G0 [(1, .ptr 1 1 0), (5, .t (.i .i64 i))] [] ∧ G0 1 = ⟨1, .cells 26 [.t (.sl (sR ins)), .t (.sl (sR outs)), .t (.sl (lsR las)), .t (.sl (gsR gts))]⟩) 211 ?_ ?_
   ·exact ⟨0, by omega, by omega, by omega, fun j r hj => absurd hj (Nat.not_lt_zero j), _, _, zp rfl ⟨rfl, rfl, trivial⟩ trivial, b0⟩
   rintro m s' ⟨i, rfl, hi1, hi2, hno, F, G0, rfl, b1⟩
   by_cases c1 : (i : Int) < las.length
   ·have c1' := eq_true c1
    by_cases c2 : (i : Int) ≤ 210
    ·have c2' := eq_true c2
     obtain ⟨x, hx⟩ : ∃ x, las[i]? = some x := ⟨_, List.getElem?_eq_getElem (by omega)⟩
     have hx' := zbv hx
     by_cases d1 : (60 : Int) < x.name.size
     ·have hf : zbX x = false := by unfold zbX; rw [decide_eq_false (by omega)]; rfl
      obtain rfl : R = false := by rw [hR, zeX (List.mem_of_getElem? hx) hf, Bool.and_false]; rfl
      have d1' := eq_true d1
      repeat' first | apply zg | apply zj | refine zf rfl fun K E hK hE => ?_ | ((first | refine za fun κ η => ?_ | refine zo rfl fun κ η => ?_); simp only [go_sem, simprocAttr, b1, c1', c2', hx', d1']; (repeat refine ⟨by omega, ?_⟩); refine η _ ?_; clear η κ) | (refine zd (hK _ ?_); clear hE hK E K) | apply zb | refine zh true rfl (fun _ => ?_) (fun h => (by cases h)) | apply zi | apply zk | apply zy | apply zJ | apply zL | (apply zm; apply zn; simp only [go_sem, simprocAttr, b1, c1', c2', hx', d1'])
     by_cases d2 : (60 : Int) < x.next.size
     ·have hf : zbX x = false := by unfold zbX; rw [decide_eq_false (p := x.next.size ≤ 60) (by omega), Bool.and_false]
      obtain rfl : R = false := by rw [hR, zeX (List.mem_of_getElem? hx) hf, Bool.and_false]; rfl
      have d1' := eq_false d1
      have d2' := eq_true d2
      repeat' first | apply zg | apply zj | refine zf rfl fun K E hK hE => ?_ | ((first | refine za fun κ η => ?_ | refine zo rfl fun κ η => ?_); simp only [go_sem, simprocAttr, b1, c1', c2', hx', d1', d2']; (repeat refine ⟨by omega, ?_⟩); refine η _ ?_; clear η κ) | (refine zd (hK _ ?_); clear hE hK E K) | apply zb | refine zh true rfl (fun _ => ?_) (fun h => (by cases h)) | apply zi | apply zk | apply zy | apply zJ | apply zL | (apply zm; apply zn; simp only [go_sem, simprocAttr, b1, c1', c2', hx', d1', d2'])
     have d1' := eq_false d1
     have d2' := eq_false d2
     have hf : zbX x = true := by unfold zbX; rw [decide_eq_true (by omega), decide_eq_true (by omega)]; rfl
     repeat' first | apply zg | apply zj | refine zf rfl fun K E hK hE => ?_ | ((first | refine za fun κ η => ?_ | refine zo rfl fun κ η => ?_); simp only [go_sem, simprocAttr, b1, c1', c2', hx', d1', d2']; (repeat refine ⟨by omega, ?_⟩); refine η _ ?_; clear η κ) | (refine zd (hK _ ?_); clear hE hK E K) | apply zb | refine zh true rfl (fun _ => ?_) (fun h => (by cases h)) | refine zh false rfl (fun h => (by cases h)) fun _ => ?_ | apply zq | apply zi | apply zs
     exact ⟨211 - (i + 1), by omega, i + 1, rfl, by omega, by omega, zgo hno hx hf, _, _, zp rfl ⟨rfl, rfl, trivial⟩ trivial, b1⟩
    ·have c2' := eq_false c2
     repeat' first | apply zg | refine zf rfl fun K E hK hE => ?_ | ((first | refine za fun κ η => ?_ | refine zo rfl fun κ η => ?_); simp only [go_sem, simprocAttr, b1, c1', c2']; (repeat refine ⟨by omega, ?_⟩); refine η _ ?_; clear η κ) | (refine zd (hK _ ?_); clear hE hK E K) | apply zb | refine zh false rfl (fun h => (by cases h)) fun _ => ?_ | apply zt | apply zu | apply zw | apply zx
     exact hN _ ⟨_, _, zp rfl ⟨rfl, trivial⟩ trivial, b1, fun h => absurd h (by omega)⟩
   ·have c1' := eq_false c1
    repeat' first | apply zg | refine zf rfl fun K E hK hE => ?_ | ((first | refine za fun κ η => ?_ | refine zo rfl fun κ η => ?_); simp only [go_sem, simprocAttr, b1, c1']; (repeat refine ⟨by omega, ?_⟩); refine η _ ?_; clear η κ) | (refine zd (hK _ ?_); clear hE hK E K) | apply zb | refine zh false rfl (fun h => (by cases h)) fun _ => ?_ | apply zt | apply zu | apply zw | apply zx
    exact hN _ ⟨_, _, zp rfl ⟨rfl, trivial⟩ trivial, b1, fun _ => zgn hno (by omega)⟩
 clear b1
 rintro s ⟨F, G1, rfl, b1, hla⟩
 have hR2 : R = (zaR ins 210 && (zaR outs 210 && (decide ((gts.length : Int) ≤ 210) && decide ((las.length : Int) ≤ 210)))) := by
  rw [hR]
  by_cases e1 : gts.length ≤ 210
  ·by_cases e2 : las.length ≤ 210
   ·rw [hga e1, hla e2, decide_eq_true e1, decide_eq_true e2, decide_eq_true (p := (gts.length : Int) ≤ 210) (by omega), decide_eq_true (p := (las.length : Int) ≤ 210) (by omega)]
    simp
   ·rw [decide_eq_false e2, decide_eq_false (p := (las.length : Int) ≤ 210) (by omega)]
    simp
  ·rw [decide_eq_false e1, decide_eq_false (p := (gts.length : Int) ≤ 210) (by omega)]
   simp
 clear hR
 generalize zaR ins 210 = t1 at *
 generalize zaR outs 210 = t2 at *
 by_cases e1 : (gts.length : Int) ≤ 210
 ·by_cases e2 : (las.length : Int) ≤ 210
  ·rw [decide_eq_true e1, decide_eq_true e2] at hR2
   have e1' := eq_true e1
   have e2' := eq_true e2
   subst hR2
   cases t1 <;> cases t2 <;>
   ·repeat' first | apply zg | refine zf rfl fun K E hK hE => ?_ | (refine za fun κ η => ?_; simp only [go_sem, simprocAttr, b1, e1', e2']; (repeat refine ⟨by omega, ?_⟩); refine η _ ?_; clear η κ)
    refine za fun κ η => ?_; simp only [go_sem, simprocAttr]; refine ⟨_, hi, ?_⟩; simp only [go_sem, simprocAttr]; refine η _ ?_; clear η κ
    repeat' first | apply zg | refine zf rfl fun K E hK hE => ?_ | (refine za fun κ η => ?_; simp only [go_sem, simprocAttr, b1, e1', e2']; (repeat refine ⟨by omega, ?_⟩); refine η _ ?_; clear η κ) | (refine zd (hK _ ?_); clear hE hK E K) | apply zb
    refine za fun κ η => ?_; simp only [go_sem, simprocAttr]; refine ⟨_, ho, ?_⟩; simp only [go_sem, simprocAttr]; refine η _ ?_; clear η κ
    repeat' first | apply zg | refine zf rfl fun K E hK hE => ?_ | ((first | refine za fun κ η => ?_ | refine zo rfl fun κ η => ?_); simp only [go_sem, simprocAttr, b1, e1', e2']; (repeat refine ⟨by omega, ?_⟩); refine η _ ?_; clear η κ) | (refine zd (hK _ ?_); clear hE hK E K) | apply zb | apply zk | (apply zm; apply zn; simp only [go_sem, simprocAttr, b1, e1', e2'])
  ·rw [decide_eq_true e1, decide_eq_false e2] at hR2
   have e1' := eq_true e1
   have e2' := eq_false e2
   subst hR2
   cases t1 <;> cases t2 <;>
   ·repeat' first | apply zg | refine zf rfl fun K E hK hE => ?_ | (refine za fun κ η => ?_; simp only [go_sem, simprocAttr, b1, e1', e2']; (repeat refine ⟨by omega, ?_⟩); refine η _ ?_; clear η κ)
    refine za fun κ η => ?_; simp only [go_sem, simprocAttr]; refine ⟨_, hi, ?_⟩; simp only [go_sem, simprocAttr]; refine η _ ?_; clear η κ
    repeat' first | apply zg | refine zf rfl fun K E hK hE => ?_ | (refine za fun κ η => ?_; simp only [go_sem, simprocAttr, b1, e1', e2']; (repeat refine ⟨by omega, ?_⟩); refine η _ ?_; clear η κ) | (refine zd (hK _ ?_); clear hE hK E K) | apply zb
    refine za fun κ η => ?_; simp only [go_sem, simprocAttr]; refine ⟨_, ho, ?_⟩; simp only [go_sem, simprocAttr]; refine η _ ?_; clear η κ
    repeat' first | apply zg | refine zf rfl fun K E hK hE => ?_ | ((first | refine za fun κ η => ?_ | refine zo rfl fun κ η => ?_); simp only [go_sem, simprocAttr, b1, e1', e2']; (repeat refine ⟨by omega, ?_⟩); refine η _ ?_; clear η κ) | (refine zd (hK _ ?_); clear hE hK E K) | apply zb | apply zk | (apply zm; apply zn; simp only [go_sem, simprocAttr, b1, e1', e2'])
 ·rw [decide_eq_false e1, Bool.false_and, Bool.and_false, Bool.and_false] at hR2
  have e1' := eq_false e1
  subst hR2
  cases t1 <;> cases t2 <;>
  ·repeat' first | apply zg | refine zf rfl fun K E hK hE => ?_ | (refine za fun κ η => ?_; simp only [go_sem, simprocAttr, b1, e1']; (repeat refine ⟨by omega, ?_⟩); refine η _ ?_; clear η κ)
   refine za fun κ η => ?_; simp only [go_sem, simprocAttr]; refine ⟨_, hi, ?_⟩; simp only [go_sem, simprocAttr]; refine η _ ?_; clear η κ
   repeat' first | apply zg | refine zf rfl fun K E hK hE => ?_ | (refine za fun κ η => ?_; simp only [go_sem, simprocAttr, b1, e1']; (repeat refine ⟨by omega, ?_⟩); refine η _ ?_; clear η κ) | (refine zd (hK _ ?_); clear hE hK E K) | apply zb
   refine za fun κ η => ?_; simp only [go_sem, simprocAttr]; refine ⟨_, ho, ?_⟩; simp only [go_sem, simprocAttr]; refine η _ ?_; clear η κ
   repeat' first | apply zg | refine zf rfl fun K E hK hE => ?_ | ((first | refine za fun κ η => ?_ | refine zo rfl fun κ η => ?_); simp only [go_sem, simprocAttr, b1, e1']; (repeat refine ⟨by omega, ?_⟩); refine η _ ?_; clear η κ) | (refine zd (hK _ ?_); clear hE hK E K) | apply zb | apply zk | (apply zm; apply zn; simp only [go_sem, simprocAttr, b1, e1'])
def zc3 (c : Ci) : Bool := zcp c && (decide (c.gts.length ≤ 24) && (decide (c.ins.length ≤ 24) && decide (c.las.length ≤ 24)))
set_option maxHeartbeats 4000000 in
theorem zjo (c : Ci) : Ct Tryz.prog Hy 7 [.ag (cE c)] [.b (zc3 c)] := by
 have hf := zjn Hy c
 have hR : zc3 c = (zcp c && (decide ((c.gts.length : Int) ≤ 24) && (decide ((c.ins.length : Int) ≤ 24) && decide ((c.las.length : Int) ≤ 24)))) := by
  unfold zc3
  rw [decide_eq_decide.2 (show c.gts.length ≤ 24 ↔ (c.gts.length : Int) ≤ 24 by omega), decide_eq_decide.2 (show c.ins.length ≤ 24 ↔ (c.ins.length : Int) ≤ 24 by omega), decide_eq_decide.2 (show c.las.length ≤ 24 ↔ (c.las.length : Int) ≤ 24 by omega)]
 rw [hR]
 generalize zcp c = f1 at *
 obtain ⟨ins, outs, las, gts⟩ := c
 simp only [cE] at hf ⊢
 cases f1 <;> by_cases e1 : (gts.length : Int) ≤ 24 <;> by_cases e2 : (ins.length : Int) ≤ 24 <;> by_cases e3 : (las.length : Int) ≤ 24 <;>
 ·simp only [e1, e2, e3, decide_true, decide_false, Bool.and_true, Bool.and_false]
  refine zI (cls := _root_.id) zB zD Tryz.func7 rfl (by decide) (Nat.le_of_ble_eq_true rfl) ?_
  rw [show Tryz.f7.ntmps = 25 from rfl, zC]
  simp only [List.zipIdx_cons, List.zipIdx_nil, List.map_cons, List.map_nil, Nat.reduceAdd]
  repeat' first | apply zg | refine zf rfl fun K E hK hE => ?_ | (refine za fun κ η => ?_; simp only [go_sem, simprocAttr]; refine η _ ?_; clear η κ) | (refine zd (hK _ ?_); clear hE hK E K) | apply zb
  refine za fun κ η => ?_; simp only [go_sem, simprocAttr]; refine ⟨_, hf, ?_⟩; simp only [go_sem, simprocAttr]; refine η _ ?_; clear η κ
  repeat' first | apply zg | refine zf rfl fun K E hK hE => ?_ | ((first | refine za fun κ η => ?_ | refine zo rfl fun κ η => ?_); simp only [go_sem, simprocAttr, e1, e2, e3]; (repeat refine ⟨by omega, ?_⟩); refine η _ ?_; clear η κ) | (refine zd (hK _ ?_); clear hE hK E K) | apply zb | apply zk | (apply zm; apply zn; simp only [go_sem, simprocAttr, e1, e2, e3])
end Go.Proofs.YtbhoeanfnbkenaaGreatDoor
