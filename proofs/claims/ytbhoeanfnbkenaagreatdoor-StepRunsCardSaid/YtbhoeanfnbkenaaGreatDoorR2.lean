import Derived.Test.YtbhoeanfnbkenaaGreatDoorR1
namespace Go.Proofs.YtbhoeanfnbkenaaGreatDoor
open Go.RowKit
set_option maxRecDepth 100000
set_option linter.unusedSimpArgs false
variable (Hy : World → Prop)
attribute [local irreducible] zU zY cwp z1 z6 lpQ z8 asQ bdQ bdY zab zac zad zaa
def zbq (c : UInt8) : Bool := decide (33 ≤ c.toNat) && decide (c.toNat ≤ 126)
def zaV (s : ByteArray) : Bool := decide (1 ≤ s.size) && (decide (s.size ≤ 40) && s.data.toList.all zbq)
theorem ziz (s : ByteArray) : s.data.toList.length = s.size := rfl
theorem ziA (s : ByteArray) : Ct Tryz.prog Hy 120 [.s s] [.b (zaV s)] := by
 by_cases c1 : s.size < 1
 ·have c1' : ((s.size : Int) < 1) = True := eq_true (by omega)
  have hb : zaV s = false := by rw [zaV, decide_eq_false (by omega)]; rfl
  refine zI (cls := _root_.id) zB zD Tryz.func120 rfl (by decide) (Nat.le_of_ble_eq_true rfl) ?_
  rw [show Tryz.f120.ntmps = 28 from rfl, zC]
  simp only [List.zipIdx_cons, List.zipIdx_nil, List.map_cons, List.map_nil, Nat.reduceAdd]
  repeat' first | apply zg | refine zf rfl fun K E hK hE => ?_ | ((first | refine za fun κ η => ?_ | refine zo rfl fun κ η => ?_); simp only [go_sem, simprocAttr, c1']; refine η _ ?_; clear η κ) | (refine zd (hK _ ?_); clear hE hK E K) | apply zb | refine zh true rfl (fun _ => ?_) (fun h => (by cases h)) | apply zk | apply zy | (apply zm; apply zn; simp only [go_sem, simprocAttr, c1'])
  rw [hb]
 have c1' : ((s.size : Int) < 1) = False := eq_false (by omega)
 by_cases c2 : 40 < s.size
 ·have c2' : ((40 : Int) < s.size) = True := eq_true (by omega)
  have hb : zaV s = false := by rw [zaV, decide_eq_false (show ¬ s.size ≤ 40 by omega), Bool.false_and, Bool.and_false]
  refine zI (cls := _root_.id) zB zD Tryz.func120 rfl (by decide) (Nat.le_of_ble_eq_true rfl) ?_
  rw [show Tryz.f120.ntmps = 28 from rfl, zC]
  simp only [List.zipIdx_cons, List.zipIdx_nil, List.map_cons, List.map_nil, Nat.reduceAdd]
  repeat' first | apply zg | refine zf rfl fun K E hK hE => ?_ | ((first | refine za fun κ η => ?_ | refine zo rfl fun κ η => ?_); simp only [go_sem, simprocAttr, c1', c2']; refine η _ ?_; clear η κ) | (refine zd (hK _ ?_); clear hE hK E K) | apply zb | refine zh true rfl (fun _ => ?_) (fun h => (by cases h)) | apply zk | apply zy | (apply zm; apply zn; simp only [go_sem, simprocAttr, c1', c2'])
  rw [hb]
 have c2' : ((40 : Int) < s.size) = False := eq_false (by omega)
 have hl := ziz s
 have hnb : zaV s = s.data.toList.all zbq := by rw [zaV, decide_eq_true (by omega), decide_eq_true (by omega)]; rfl
 rw [hnb]
 refine zI (cls := _root_.id) zB zD Tryz.func120 rfl (by decide) (Nat.le_of_ble_eq_true rfl) ?_
 rw [show Tryz.f120.ntmps = 28 from rfl, zC]
 simp only [List.zipIdx_cons, List.zipIdx_nil, List.map_cons, List.map_nil, Nat.reduceAdd]
 repeat' first | apply zg | apply zj | refine zf rfl fun K E hK hE => ?_ | ((first | refine za fun κ η => ?_ | refine zo rfl fun κ η => ?_); simp only [go_sem, simprocAttr, c1', c2']; refine η _ ?_; clear η κ) | (refine zd (hK _ ?_); clear hE hK E K) | apply zb | refine zh false rfl (fun h => (by cases h)) fun _ => ?_ | apply zi
 refine zW (fun m s' => ∃ k : Nat, m = s.size - k ∧ k ≤ s.size ∧ (∀ (j : Nat) c, j < k → s.data.toList[j]? = some c → zbq c = true) ∧ ∃ F G0, s' = nf 28 F G0 [(0, .t (.s s)), (13, .t (.i .i64 s.size)), (14, .t (.i .i64 k))] []) (s.size) ?_ ?_
 ·exact ⟨0, by omega, by omega, fun j c hj => absurd hj (Nat.not_lt_zero j), _, _, zp rfl ⟨rfl, rfl, rfl, trivial⟩ trivial⟩
 rintro m s' ⟨k, rfl, hk, hno, F, G0, rfl⟩
 repeat' first | apply zg | refine zf rfl fun K E hK hE => ?_ | (refine za fun κ η => ?_; simp only [go_sem, simprocAttr]; refine η _ ?_; clear η κ) | (refine zd (hK _ ?_); clear hE hK E K) | apply zb
 refine zh _ rfl (fun hq => ?_) (fun hq => ?_)
 ·simp only [decide_eq_true_eq] at hq
  obtain ⟨c, hc⟩ : ∃ c, s.data.toList[k]? = some c := ⟨_, List.getElem?_eq_getElem (by omega)⟩
  have hbad : zbq c = false → s.data.toList.all zbq = false := fun h => List.all_eq_false.2 ⟨c, List.mem_of_getElem? hc, by rw [h]; decide⟩
  by_cases d1 : c.toNat < 33
  ·have d1' : ((c.toNat : Int) < 33) = True := eq_true (by omega)
   repeat' first | apply zg | apply zj | refine zf rfl fun K E hK hE => ?_ | ((first | refine za fun κ η => ?_ | refine zo rfl fun κ η => ?_); simp only [go_sem, simprocAttr, hc, Int.toNat_natCast, d1']; (repeat refine ⟨by omega, ?_⟩); refine η _ ?_; clear η κ) | (refine zd (hK _ ?_); clear hE hK E K) | apply zb | refine zh true rfl (fun _ => ?_) (fun h => (by cases h)) | apply zi | apply zk | apply zy | apply zJ | apply zL | (apply zm; apply zn; simp only [go_sem, simprocAttr, hc, Int.toNat_natCast, d1'])
   rw [hbad (by rw [zbq, decide_eq_false (by omega)]; rfl)]
  have d1' : ((c.toNat : Int) < 33) = False := eq_false (by omega)
  by_cases d2 : 126 < c.toNat
  ·have d2' : ((126 : Int) < c.toNat) = True := eq_true (by omega)
   repeat' first | apply zg | apply zj | refine zf rfl fun K E hK hE => ?_ | ((first | refine za fun κ η => ?_ | refine zo rfl fun κ η => ?_); simp only [go_sem, simprocAttr, hc, Int.toNat_natCast, d1', d2']; (repeat refine ⟨by omega, ?_⟩); refine η _ ?_; clear η κ) | (refine zd (hK _ ?_); clear hE hK E K) | apply zb | refine zh true rfl (fun _ => ?_) (fun h => (by cases h)) | apply zi | apply zk | apply zy | apply zJ | apply zL | (apply zm; apply zn; simp only [go_sem, simprocAttr, hc, Int.toNat_natCast, d1', d2'])
   rw [hbad (by rw [zbq, decide_eq_false (show ¬ c.toNat ≤ 126 by omega), Bool.and_false])]
  ·have d2' : ((126 : Int) < c.toNat) = False := eq_false (by omega)
   repeat' first | apply zg | apply zj | refine zf rfl fun K E hK hE => ?_ | ((first | refine za fun κ η => ?_ | refine zo rfl fun κ η => ?_); simp only [go_sem, simprocAttr, hc, Int.toNat_natCast, d1', d2']; (repeat refine ⟨by omega, ?_⟩); refine η _ ?_; clear η κ) | (refine zd (hK _ ?_); clear hE hK E K) | apply zb | refine zh false rfl (fun h => (by cases h)) fun _ => ?_ | apply zq | apply zi | apply zs
   refine ⟨s.size - (k + 1), by omega, k + 1, rfl, by omega, fun j y hj hy => ?_, _, _, zp rfl ⟨rfl, rfl, rfl, trivial⟩ trivial⟩
   rcases Nat.lt_or_eq_of_le (Nat.lt_succ_iff.1 hj) with h | rfl
   ·exact hno j y h hy
   ·rw [hc] at hy; cases hy
    rw [zbq, decide_eq_true (by omega), decide_eq_true (by omega)]
    rfl
 ·simp only [decide_eq_false_iff_not] at hq
  rw [List.all_eq_true.2 fun c hc => by
   obtain ⟨j, hj⟩ := List.getElem?_of_mem hc
   have := (List.getElem?_eq_some_iff.1 hj).1
   exact hno j c (by omega) hj]
  repeat' first | apply zg | refine zf rfl fun K E hK hE => ?_ | (refine za fun κ η => ?_; simp only [go_sem, simprocAttr]; refine η _ ?_; clear η κ) | (refine zd (hK _ ?_); clear hE hK E K) | apply zb | apply zt | apply zk | apply zu | apply zw | apply zx | (apply zm; apply zn; simp only [go_sem, simprocAttr])
abbrev Wr := Option (Int × ByteArray)
def wrA (w : Int × ByteArray) : A := .t (.ifc 108 (.ag [.i .i64 w.1, .s w.2]))
def Lo (o o' : Nat → O) : Prop := ∀ i, i < 1000 → o' i = o i
theorem Lo.refl (o : Nat → O) : Lo o o := fun _ _ => rfl
theorem Lo.trans {o o1 o2 : Nat → O} (h : Lo o o1) (k : Lo o1 o2) : Lo o o2 := fun i hi => (k i hi).trans (h i hi)
theorem zak {n : Nat} {F : Nat → A} {G : Nat → O} {ts : List (Nat × A)} {os : List (Nat × O)} (h : (os.all fun p => decide (1000 ≤ p.1)) = true) : Lo G (nf n F G ts os).o := fun i hi => zaY fun p hp e => by
 obtain ⟨q, hq, rfl⟩ := List.mem_map.1 hp
 have := of_decide_eq_true (List.all_eq_true.1 h q hq)
 omega
def Ck (f : FuncId) (args : List A) (o : Nat → O) (r : Wr) : Prop := Cp Tryz.prog Hy f args o (fun rs o' => rs = [] ∧ r = none ∧ Lo o o') (fun x o' => (∃ w, r = some w ∧ x = wrA w) ∧ Lo o o')
def Ck0 (f : FuncId) (args : List A) (o : Nat → O) (r : Wr) : Prop := Cp Tryz.prog Hy f args o (fun rs o' => rs = [] ∧ r = none ∧ o' = o) (fun x o' => (∃ w, r = some w ∧ x = wrA w) ∧ o' = o)
theorem zck {α : Type} {p : α → Bool} {l : List α} {k : Nat} {x : α} (hx : l[k]? = some x) (hp : p x = true) (hno : ∀ (j : Nat) y, j < k → l[j]? = some y → p y = false) : l.find? p = some x := by
 rw [List.find?_eq_some_iff_getElem]
 obtain ⟨hk, hk2⟩ := List.getElem?_eq_some_iff.1 hx
 exact ⟨hp, k, hk, hk2, fun j hj => by rw [hno j _ hj (List.getElem?_eq_getElem (by omega))]; rfl⟩
theorem zcl {α : Type} {p : α → Bool} {l : List α} (hno : ∀ (j : Nat) y, j < l.length → l[j]? = some y → p y = false) : l.find? p = none := by
 rw [List.find?_eq_none]
 intro x hx
 obtain ⟨j, hj⟩ := List.getElem?_of_mem hx
 rw [hno j x (List.getElem?_eq_some_iff.1 hj).1 hj]
 decide
def zao (l : List ByteArray) : Wr := (l.find? fun s => !zaV s).map fun s => (4, s)
theorem zfN (l : List ByteArray) (hl : l.length ≤ 1000000) (o : Nat → O) : Ck0 Hy 104 [.t (.sl (sR l))] o (zao l) := by
 refine zca (cls := _root_.id) zB zD Tryz.func104 rfl (by decide) (Nat.le_of_ble_eq_true rfl) ?_
 rw [show Tryz.f104.ntmps = 17 from rfl, zC]
 simp only [List.zipIdx_cons, List.zipIdx_nil, List.map_cons, List.map_nil, Nat.reduceAdd]
 repeat' first | apply zg | apply zj | refine zf rfl fun K E hK hE => ?_ | (refine za fun κ η => ?_; simp only [go_sem, simprocAttr]; refine η _ ?_; clear η κ) | (refine zd (hK _ ?_); clear hE hK E K) | apply zb
 refine zW (fun m s' => ∃ k : Nat, m = l.length - k ∧ k ≤ l.length ∧ (∀ (j : Nat) y, j < k → l[j]? = some y → (!zaV y) = false) ∧ ∃ F, s' = nf 17 F o [(4, .t (.sl (sR l))), (5, .t (.i .i64 l.length)), (6, .t (.i .i64 k))] []) l.length ?_ ?_
 ·exact ⟨0, by omega, by omega, fun j x hj => absurd hj (Nat.not_lt_zero j), _, zp rfl ⟨rfl, rfl, rfl, trivial⟩ trivial⟩
 rintro m s' ⟨k, rfl, hk, hno, F, rfl⟩
 repeat' first | apply zg | refine zf rfl fun K E hK hE => ?_ | (refine za fun κ η => ?_; simp only [go_sem, simprocAttr]; refine η _ ?_; clear η κ) | (refine zd (hK _ ?_); clear hE hK E K) | apply zb
 refine zh _ rfl (fun hq => ?_) (fun hq => ?_)
 ·simp only [decide_eq_true_eq] at hq
  obtain ⟨x, hx⟩ : ∃ x, l[k]? = some x := ⟨_, List.getElem?_eq_getElem (by omega)⟩
  have hx' := za5 hx
  have hnm := ziA Hy x
  repeat' first | apply zg | apply zj | refine zf rfl fun K E hK hE => ?_ | (refine za fun κ η => ?_; simp only [go_sem, simprocAttr, hx']; (repeat refine ⟨by omega, ?_⟩); refine η _ ?_; clear η κ) | (refine zd (hK _ ?_); clear hE hK E K) | apply zb | apply zi
  refine za fun κ η => ?_; simp only [go_sem, simprocAttr]; refine ⟨_, hnm, ?_⟩; simp only [go_sem, simprocAttr]; refine η _ ?_; clear η κ
  cases hb : zaV x with
  | true =>
   repeat' first | refine zf rfl fun K E hK hE => ?_ | (refine za fun κ η => ?_; simp only [go_sem, simprocAttr]; (repeat refine ⟨by omega, ?_⟩); refine η _ ?_; clear η κ) | (refine zd (hK _ ?_); clear hE hK E K) | apply zb | refine zh false rfl (fun h => (by cases h)) fun _ => ?_ | apply zq | apply zi | apply zs
   refine ⟨l.length - (k + 1), by omega, k + 1, rfl, by omega, fun j y hj hy => ?_, _, zp rfl ⟨rfl, rfl, rfl, trivial⟩ trivial⟩
   rcases Nat.lt_or_eq_of_le (Nat.lt_succ_iff.1 hj) with h | rfl
   ·exact hno j y h hy
   ·rw [hx] at hy; cases hy; rw [hb]; rfl
  | false =>
   repeat' first | refine zf rfl fun K E hK hE => ?_ | (refine za fun κ η => ?_; simp only [go_sem, simprocAttr]; refine η _ ?_; clear η κ) | (refine zd (hK _ ?_); clear hE hK E K) | apply zb | refine zh true rfl (fun _ => ?_) (fun h => (by cases h))
   refine zbR ?_; simp only [go_sem, simprocAttr]; refine hE.2.2 _ ?_
   repeat' first | apply zM | apply zN | apply zO
   exact zbj ⟨⟨(4, x), by rw [zao, zck hx (by rw [hb]; rfl) hno]; rfl, rfl⟩, rfl⟩
 ·simp only [decide_eq_false_iff_not] at hq
  repeat' first | apply zt | apply zu | apply zw | apply zx
  exact zcO ⟨rfl, by rw [zao, zcl fun j y hj => hno j y (by omega)]; rfl, rfl⟩
theorem ziB (l : List ByteArray) (hl : l.length ≤ 1000000) {o : Nat → O} {id g : Nat} (ho : o id = ⟨g, .row 9 1 (sR l)⟩) : Ck0 Hy 104 [.row id g] o (zao l) := by
 refine zca (cls := _root_.id) zB zD Tryz.func104 rfl (by decide) (Nat.le_of_ble_eq_true rfl) ?_
 rw [show Tryz.f104.ntmps = 17 from rfl, zC]
 simp only [List.zipIdx_cons, List.zipIdx_nil, List.map_cons, List.map_nil, Nat.reduceAdd]
 repeat' first | apply zg | apply zj | refine zf rfl fun K E hK hE => ?_ | (refine za fun κ η => ?_; simp only [go_sem, simprocAttr, ho]; refine η _ ?_; clear η κ) | (refine zd (hK _ ?_); clear hE hK E K) | apply zb
 refine zW (fun m s' => ∃ k : Nat, m = l.length - k ∧ k ≤ l.length ∧ (∀ (j : Nat) y, j < k → l[j]? = some y → (!zaV y) = false) ∧ ∃ F, s' = nf 17 F o [(4, .row id g), (5, .t (.i .i64 l.length)), (6, .t (.i .i64 k))] []) l.length ?_ ?_
 ·exact ⟨0, by omega, by omega, fun j x hj => absurd hj (Nat.not_lt_zero j), _, zp rfl ⟨rfl, rfl, rfl, trivial⟩ trivial⟩
 rintro m s' ⟨k, rfl, hk, hno, F, rfl⟩
 repeat' first | apply zg | refine zf rfl fun K E hK hE => ?_ | (refine za fun κ η => ?_; simp only [go_sem, simprocAttr, ho]; refine η _ ?_; clear η κ) | (refine zd (hK _ ?_); clear hE hK E K) | apply zb
 refine zh _ rfl (fun hq => ?_) (fun hq => ?_)
 ·simp only [decide_eq_true_eq] at hq
  obtain ⟨x, hx⟩ : ∃ x, l[k]? = some x := ⟨_, List.getElem?_eq_getElem (by omega)⟩
  have hx' := za5 hx
  have hnm := ziA Hy x
  repeat' first | apply zg | apply zj | refine zf rfl fun K E hK hE => ?_ | (refine za fun κ η => ?_; simp only [go_sem, simprocAttr, hx', ho]; (repeat refine ⟨by omega, ?_⟩); refine η _ ?_; clear η κ) | (refine zd (hK _ ?_); clear hE hK E K) | apply zb | apply zi
  refine za fun κ η => ?_; simp only [go_sem, simprocAttr]; refine ⟨_, hnm, ?_⟩; simp only [go_sem, simprocAttr]; refine η _ ?_; clear η κ
  cases hb : zaV x with
  | true =>
   repeat' first | refine zf rfl fun K E hK hE => ?_ | (refine za fun κ η => ?_; simp only [go_sem, simprocAttr]; (repeat refine ⟨by omega, ?_⟩); refine η _ ?_; clear η κ) | (refine zd (hK _ ?_); clear hE hK E K) | apply zb | refine zh false rfl (fun h => (by cases h)) fun _ => ?_ | apply zq | apply zi | apply zs
   refine ⟨l.length - (k + 1), by omega, k + 1, rfl, by omega, fun j y hj hy => ?_, _, zp rfl ⟨rfl, rfl, rfl, trivial⟩ trivial⟩
   rcases Nat.lt_or_eq_of_le (Nat.lt_succ_iff.1 hj) with h | rfl
   ·exact hno j y h hy
   ·rw [hx] at hy; cases hy; rw [hb]; rfl
  | false =>
   repeat' first | refine zf rfl fun K E hK hE => ?_ | (refine za fun κ η => ?_; simp only [go_sem, simprocAttr]; refine η _ ?_; clear η κ) | (refine zd (hK _ ?_); clear hE hK E K) | apply zb | refine zh true rfl (fun _ => ?_) (fun h => (by cases h))
   refine zbR ?_; simp only [go_sem, simprocAttr]; refine hE.2.2 _ ?_
   repeat' first | apply zM | apply zN | apply zO
   exact zbj ⟨⟨(4, x), by rw [zao, zck hx (by rw [hb]; rfl) hno]; rfl, rfl⟩, rfl⟩
 ·simp only [decide_eq_false_iff_not] at hq
  repeat' first | apply zt | apply zu | apply zw | apply zx
  exact zcO ⟨rfl, by rw [zao, zcl fun j y hj => hno j y (by omega)]; rfl, rfl⟩
end Go.Proofs.YtbhoeanfnbkenaaGreatDoor
namespace Go.Proofs.YtbhoeanfnbkenaaGreatDoor
open Go.RowKit Go.WideMaps
set_option maxRecDepth 100000
set_option linter.unusedSimpArgs false
variable (Hy : World → Prop)
attribute [local irreducible] zU zY cwp z1 z6 lpQ z8 asQ bdQ bdY zab zac zad zaa
def zba : ByteArray := ⟨#[]⟩
def zbf (g : Gt) : Bool := decide (8 < g.ins.length) || decide (128 < g.rows.length)
def zaW (c : Ci) : Bool := decide (200 < c.ins.length + c.las.length + c.gts.length) || (decide (200 < c.outs.length) || c.gts.any zbf)
def za4 (c : Ci) : Wr := if zaW c = true then some (8, zba) else none
structure CRoom (c : Ci) : Prop where
 ins : c.ins.length ≤ 140737488355328
 outs : c.outs.length ≤ 140737488355328
 las : c.las.length ≤ 140737488355328
 gts : c.gts.length ≤ 140737488355328
set_option maxHeartbeats 2000000 in
theorem zmw (c : Ci) (hc : CRoom c) (o : Nat → O) : Ck Hy 78 [.ag (cA c)] o (za4 c) := by
 obtain ⟨ins, outs, las, gts⟩ := c
 obtain ⟨h1, h2, h3, h4⟩ := hc
 simp only at h1 h2 h3 h4
 have bad : zaW ⟨ins, outs, las, gts⟩ = true → za4 ⟨ins, outs, las, gts⟩ = some (8, zba) := fun h => if_pos h
 by_cases c1 : 200 < ins.length + las.length + gts.length
 ·have c1' : ((200 : Int) < ins.length + las.length + gts.length) = True := eq_true (by omega)
  have hb := bad (by rw [zaW, decide_eq_true c1]; rfl)
  refine zca (cls := fun d => 7500 + d) zB zD Tryz.func78 rfl (by decide) (Nat.le_of_ble_eq_true rfl) ?_
  rw [show Tryz.f78.ntmps = 44 from rfl, zC]
  simp only [List.zipIdx_cons, List.zipIdx_nil, List.map_cons, List.map_nil, Nat.reduceAdd, cA]
  repeat' first | apply zg | refine zf rfl fun K E hK hE => ?_ | ((first | refine za fun κ η => ?_ | refine zo rfl fun κ η => ?_); simp only [go_sem, simprocAttr, c1']; (repeat refine ⟨by omega, ?_⟩); refine η _ ?_; clear η κ) | (refine zd (hK _ ?_); clear hE hK E K) | apply zb | refine zh true rfl (fun _ => ?_) (fun h => (by cases h))
  refine zbR ?_; simp only [go_sem, simprocAttr]; refine hE.2.2 _ ?_
  repeat' apply zM
  exact zbj ⟨⟨_, hb, rfl⟩, zak rfl⟩
 have c1' : ((200 : Int) < ins.length + las.length + gts.length) = False := eq_false (by omega)
 by_cases c2 : 200 < outs.length
 ·have c2' : ((200 : Int) < outs.length) = True := eq_true (by omega)
  have hb := bad (by rw [zaW, decide_eq_true c2]; simp)
  refine zca (cls := fun d => 7500 + d) zB zD Tryz.func78 rfl (by decide) (Nat.le_of_ble_eq_true rfl) ?_
  rw [show Tryz.f78.ntmps = 44 from rfl, zC]
  simp only [List.zipIdx_cons, List.zipIdx_nil, List.map_cons, List.map_nil, Nat.reduceAdd, cA]
  repeat' first | apply zg | refine zf rfl fun K E hK hE => ?_ | ((first | refine za fun κ η => ?_ | refine zo rfl fun κ η => ?_); simp only [go_sem, simprocAttr, c1', c2']; (repeat refine ⟨by omega, ?_⟩); refine η _ ?_; clear η κ) | (refine zd (hK _ ?_); clear hE hK E K) | apply zb | refine zh true rfl (fun _ => ?_) (fun h => (by cases h))
  refine zbR ?_; simp only [go_sem, simprocAttr]; refine hE.2.2 _ ?_
  repeat' apply zM
  exact zbj ⟨⟨_, hb, rfl⟩, zak rfl⟩
 have c2' : ((200 : Int) < outs.length) = False := eq_false (by omega)
 refine zca (cls := fun d => 7500 + d) zB zD Tryz.func78 rfl (by decide) (Nat.le_of_ble_eq_true rfl) ?_
 rw [show Tryz.f78.ntmps = 44 from rfl, zC]
 simp only [List.zipIdx_cons, List.zipIdx_nil, List.map_cons, List.map_nil, Nat.reduceAdd, cA]
 repeat' first | apply zg | apply zj | refine zf rfl fun K E hK hE => ?_ | ((first | refine za fun κ η => ?_ | refine zo rfl fun κ η => ?_); simp only [go_sem, simprocAttr, c1', c2']; (repeat refine ⟨by omega, ?_⟩); refine η _ ?_; clear η κ) | (refine zd (hK _ ?_); clear hE hK E K) | apply zb | refine zh false rfl (fun h => (by cases h)) fun _ => ?_ | apply zi
 refine zW (fun m s' => ∃ k : Nat, m = gts.length - k ∧ k ≤ gts.length ∧ (∀ (j : Nat) y, j < k → gts[j]? = some y → zbf y = false) ∧ ∃ F G0, s' = nf 44 F G0 [(25, .t (.sl (gsR gts))), (26, .t (.i .i64 gts.length)), (27, .t (.i .i64 k))] [] ∧ Lo o G0) gts.length ?_ ?_
 ·exact ⟨0, by omega, by omega, fun j x hj => absurd hj (Nat.not_lt_zero j), _, _, zp rfl ⟨rfl, rfl, rfl, trivial⟩ trivial, zak rfl⟩
 rintro m s' ⟨k, rfl, hk, hno, F, G0, rfl, hlo⟩
 repeat' first | apply zg | refine zf rfl fun K E hK hE => ?_ | (refine za fun κ η => ?_; simp only [go_sem, simprocAttr]; refine η _ ?_; clear η κ) | (refine zd (hK _ ?_); clear hE hK E K) | apply zb
 refine zh _ rfl (fun hq => ?_) (fun hq => ?_)
 ·simp only [decide_eq_true_eq] at hq
  obtain ⟨x, hx⟩ : ∃ x, gts[k]? = some x := ⟨_, List.getElem?_eq_getElem (by omega)⟩
  have hx' := zaQ hx
  have hbad : zbf x = true → za4 ⟨ins, outs, las, gts⟩ = some (8, zba) := fun h => bad (by
   have : gts.any zbf = true := List.any_eq_true.2 ⟨x, List.mem_of_getElem? hx, h⟩
   rw [zaW, this, Bool.or_true, Bool.or_true])
  by_cases d1 : 8 < x.ins.length
  ·have d1' : ((8 : Int) < x.ins.length) = True := eq_true (by omega)
   repeat' first | apply zg | apply zj | refine zf rfl fun K E hK hE => ?_ | ((first | refine za fun κ η => ?_ | refine zo rfl fun κ η => ?_); simp only [go_sem, simprocAttr, hx', d1']; (repeat refine ⟨by omega, ?_⟩); refine η _ ?_; clear η κ) | (refine zd (hK _ ?_); clear hE hK E K) | apply zb | refine zh true rfl (fun _ => ?_) (fun h => (by cases h)) | apply zi
   refine zbR ?_; simp only [go_sem, simprocAttr]; refine hE.2.2 _ ?_
   repeat' first | apply zM | apply zN | apply zO
   exact zbj ⟨⟨_, hbad (by rw [zbf, decide_eq_true d1]; rfl), rfl⟩, hlo.trans (zak rfl)⟩
  have d1' : ((8 : Int) < x.ins.length) = False := eq_false (by omega)
  by_cases d2 : 128 < x.rows.length
  ·have d2' : ((128 : Int) < x.rows.length) = True := eq_true (by omega)
   repeat' first | apply zg | apply zj | refine zf rfl fun K E hK hE => ?_ | ((first | refine za fun κ η => ?_ | refine zo rfl fun κ η => ?_); simp only [go_sem, simprocAttr, hx', d1', d2']; (repeat refine ⟨by omega, ?_⟩); refine η _ ?_; clear η κ) | (refine zd (hK _ ?_); clear hE hK E K) | apply zb | refine zh true rfl (fun _ => ?_) (fun h => (by cases h)) | apply zi
   refine zbR ?_; simp only [go_sem, simprocAttr]; refine hE.2.2 _ ?_
   repeat' first | apply zM | apply zN | apply zO
   exact zbj ⟨⟨_, hbad (by rw [zbf, decide_eq_true d2, Bool.or_true]), rfl⟩, hlo.trans (zak rfl)⟩
  ·have d2' : ((128 : Int) < x.rows.length) = False := eq_false (by omega)
   repeat' first | apply zg | apply zj | refine zf rfl fun K E hK hE => ?_ | ((first | refine za fun κ η => ?_ | refine zo rfl fun κ η => ?_); simp only [go_sem, simprocAttr, hx', d1', d2']; (repeat refine ⟨by omega, ?_⟩); refine η _ ?_; clear η κ) | (refine zd (hK _ ?_); clear hE hK E K) | apply zb | refine zh false rfl (fun h => (by cases h)) fun _ => ?_ | apply zq | apply zi | apply zs
   refine ⟨gts.length - (k + 1), by omega, k + 1, rfl, by omega, fun j y hj hy => ?_, _, _, zp rfl ⟨rfl, rfl, rfl, trivial⟩ trivial, hlo.trans (zak rfl)⟩
   rcases Nat.lt_or_eq_of_le (Nat.lt_succ_iff.1 hj) with h | rfl
   ·exact hno j y h hy
   ·rw [hx] at hy; cases hy
    rw [zbf, decide_eq_false d1, decide_eq_false d2]
    rfl
 ·simp only [decide_eq_false_iff_not] at hq
  have hb : za4 ⟨ins, outs, las, gts⟩ = none := if_neg (by
   have : gts.any zbf = false := List.any_eq_false.2 fun x hx => by
    obtain ⟨j, hj⟩ := List.getElem?_of_mem hx
    rw [hno j x (by have := (List.getElem?_eq_some_iff.1 hj).1; omega) hj]
    decide
   rw [zaW, this, decide_eq_false c1, decide_eq_false c2]
   decide)
  repeat' first | apply zt | apply zu | apply zw | apply zx
  exact zcO ⟨rfl, hb, hlo⟩
instance decIn (s : ByteArray) (l : List ByteArray) : Decidable (s ∈ l) := decidable_of_iff (l.any (fun y => decide (y = s)) = true) (by simp)
def SetM (E : List (Ky × A)) (l : List ByteArray) : Prop := ∀ s : ByteArray, zam E (.s s) = if s ∈ l then some (.ag []) else none
theorem zcC (k : Ky) (v : A) (k' : Ky) : ∀ E : List (Ky × A), zam (zaE E k v) k' = if k' = k then some v else zam E k' := fun E => by
 unfold zaE
 by_cases hm : k ∈ E.map (·.1)
 ·rw [if_pos hm]
  by_cases h : k' = k
  ·subst h
   rw [if_pos rfl]
   induction E with
   | nil => cases hm
   | cons p E ih =>
    by_cases hp : p.1 = k'
    ·simp [zam, hp]
    ·have hm' : k' ∈ E.map (·.1) := by
      rcases List.mem_cons.1 hm with h | h
      ·exact absurd h.symm hp
      ·exact h
     have := ih hm'
     simp only [zam, List.map_cons, if_neg hp] at this ⊢
     rw [List.find?_cons_of_neg (by simpa using hp)]
     exact this
  ·rw [if_neg h]
   clear hm
   induction E with
   | nil => rfl
   | cons p E ih =>
    simp only [zam, List.map_cons] at ih ⊢
    by_cases hp : p.1 = k
    ·rw [if_pos hp, List.find?_cons_of_neg (by simpa using fun e => h e.symm), List.find?_cons_of_neg (by rw [hp]; simpa using fun e => h e.symm)]
     exact ih
    ·rw [if_neg hp]
     by_cases h2 : p.1 = k'
     ·rw [List.find?_cons_of_pos (by simpa using h2), List.find?_cons_of_pos (by simpa using h2)]
     ·rw [List.find?_cons_of_neg (by simpa using h2), List.find?_cons_of_neg (by simpa using h2)]
      exact ih
 ·rw [if_neg hm]
  by_cases h : k' = k
  ·subst h
   rw [if_pos rfl]
   have : E.find? (fun p => p.1 = k') = none := List.find?_eq_none.2 fun p hp e => hm (List.mem_map.2 ⟨p, hp, by simpa using e⟩)
   simp [zam, List.find?_append, this]
  ·rw [if_neg h]
   have : ¬ k = k' := fun e => h e.symm
   cases hf : E.find? (fun p => p.1 = k') with
   | none => simp [zam, List.find?_append, hf, this]
   | some p => simp [zam, List.find?_append, hf]
theorem SetM.nil : SetM [] [] := fun _ => rfl
theorem SetM.put {E : List (Ky × A)} {l : List ByteArray} (h : SetM E l) (x : ByteArray) : SetM (zaE E (.s x) (.ag [])) (l ++ [x]) := fun s => by
 rw [zcC, h s]
 by_cases e : s = x
 ·subst e
  rw [if_pos rfl, if_pos (by simp)]
 ·rw [if_neg (fun h => e (by cases h; rfl))]
  by_cases hm : s ∈ l
  ·rw [if_pos hm, if_pos (List.mem_append_left _ hm)]
  ·rw [if_neg hm, if_neg]
   intro h
   rcases List.mem_append.1 h with h | h
   ·exact hm h
   ·exact e (List.mem_singleton.1 h)
theorem zfO {ky : Ky} (hk : ky.ok .str) : ∃ l, keyOf Tryz.prog 9 ky.v = some l := by
 cases ky with
 | s x => exact ⟨_, keyOf_string_mk Tryz.underlying9 (Nat.le_trans hk (by decide))⟩
 | i k n => exact hk.elim
 | a k l => exact hk.elim
theorem ziC : MLaw Tryz.prog tt 135 9 136 where
 und := Tryz.underlying135
 keyed := Go.Maps.string_keyed Tryz.underlying9
 key := fun ky hk => zfO hk
 zero := ⟨.agg #[], fun w => by
  obtain ⟨i, z, i1, _, _, i4, _⟩ := (zB 136 _ rfl).info
  have e : Tryz.prog.info? 136 = some i := i1
  have hz : (Tryz.prog.info? 136).bind (·.zero) = some (.agg #[]) := by kernel_rfl
  rw [e, Option.bind_some] at hz
  simp [zeroValue, zdt e, hz], fun w D o ι => .ag #[] [] (fun _ => undef) rfl (fun j hj => absurd hj (Nat.not_lt_zero j)) (fun j x hx => by simp at hx) (fun j x hx => by simp at hx)⟩
def zbu : List ByteArray → List ByteArray → Option ByteArray
 | _, [] => none
 | pre, x :: l => if x ∈ pre then some x else zbu (pre ++ [x]) l
def zaL (l : List ByteArray) : Wr := (zbu [] l).map fun s => (5, s)
theorem zfP : ∀ (l pre : List ByteArray) (k : Nat), (∀ (j : Nat) y, j < k → l[j]? = some y → y ∉ pre ++ l.take j) → k ≤ l.length → zbu pre l = zbu (pre ++ l.take k) (l.drop k)
 | l, pre, 0, _, _ => by simp
 | [], pre, k + 1, _, h => by simp at h
 | x :: l, pre, k + 1, hno, hk => by
  have h0 := hno 0 x (by omega) rfl
  rw [List.take_zero, List.append_nil] at h0
  show (if x ∈ pre then some x else zbu (pre ++ [x]) l) = _
  rw [if_neg h0, zfP l (pre ++ [x]) k (fun j y hj hy => by
   have := hno (j + 1) y (by omega) (by rw [List.getElem?_cons_succ]; exact hy)
   rw [List.take_succ_cons] at this
   rw [List.append_assoc]
   exact this) (by simpa using hk), List.take_succ_cons, List.drop_succ_cons, List.append_assoc]
  rfl
theorem ziD {l : List ByteArray} {k : Nat} {x : ByteArray} (hno : ∀ (j : Nat) y, j < k → l[j]? = some y → y ∉ l.take j) (hx : l[k]? = some x) (hm : x ∈ l.take k) : zaL l = some (5, x) := by
 obtain ⟨hk, hk2⟩ := List.getElem?_eq_some_iff.1 hx
 unfold zaL
 rw [zfP l [] k hno (by omega), List.drop_eq_getElem_cons hk, hk2, List.nil_append]
 unfold zbu
 rw [if_pos hm]
 rfl
theorem ziE {l : List ByteArray} (hno : ∀ (j : Nat) y, j < l.length → l[j]? = some y → y ∉ l.take j) : zaL l = none := by
 unfold zaL
 rw [zfP l [] l.length hno (Nat.le_refl _), List.drop_length]
 rfl
set_option maxHeartbeats 2000000 in
theorem ziF (l : List ByteArray) (hl : l.length ≤ 1000000) (hz : ∀ s ∈ l, s.size ≤ 1000000) (o : Nat → O) : Ck Hy 80 [.t (.sl (sR l))] o (zaL l) := by
 have hM := ziC
 have hks : zaS tt 9 = .str := rfl
 refine zca (cls := fun d => 7500 + d) zB zD Tryz.func80 rfl (by decide) (Nat.le_of_ble_eq_true rfl) ?_
 rw [show Tryz.f80.ntmps = 28 from rfl, zC]
 simp only [List.zipIdx_cons, List.zipIdx_nil, List.map_cons, List.map_nil, Nat.reduceAdd]
 repeat' first | apply zg | apply zj | refine zf rfl fun K E hK hE => ?_ | (refine za fun κ η => ?_; simp only [go_sem, simprocAttr, hks]; (repeat refine ⟨by omega, ?_⟩); refine η _ ?_; clear η κ) | (refine zd (hK _ ?_); clear hE hK E K) | apply zb
 refine zW (fun m s' => ∃ k : Nat, m = l.length - k ∧ k ≤ l.length ∧ (∀ (j : Nat) y, j < k → l[j]? = some y → y ∉ l.take j) ∧ ∃ F G0 q E, s' = nf 28 F G0 [(2, .row 7507 q), (8, .t (.sl (sR l))), (9, .t (.i .i64 l.length)), (10, .t (.i .i64 k))] [] ∧ G0 7507 = ⟨q, .map .str E⟩ ∧ SetM E (l.take k) ∧ Lo o G0) l.length ?_ ?_
 ·exact ⟨0, by omega, by omega, fun j x hj => absurd hj (Nat.not_lt_zero j), _, _, _, _, zp rfl ⟨rfl, rfl, rfl, rfl, trivial⟩ trivial, rfl, SetM.nil, zak rfl⟩
 rintro m s' ⟨k, rfl, hk, hno, F, G0, q, E, rfl, g7, hE, hlo⟩
 repeat' first | apply zg | refine zf rfl fun K E hK hE => ?_ | (refine za fun κ η => ?_; simp only [go_sem, simprocAttr]; refine η _ ?_; clear η κ) | (refine zd (hK _ ?_); clear hE hK E K) | apply zb
 refine zh _ rfl (fun hq => ?_) (fun hq => ?_)
 ·simp only [decide_eq_true_eq] at hq
  obtain ⟨x, hx⟩ : ∃ x, l[k]? = some x := ⟨_, List.getElem?_eq_getElem (by omega)⟩
  have hx' := za5 hx
  have hsz := hz x (List.mem_of_getElem? hx)
  have hg := hE x
  have hnx : l.take (k + 1) = l.take k ++ [x] := by rw [List.take_add_one, hx]; rfl
  by_cases hm : x ∈ l.take k
  ·rw [if_pos hm] at hg
   repeat' first | apply zg | apply zj | refine zf rfl fun K E hK hE => ?_ | (refine za fun κ η => ?_; simp only [go_sem, simprocAttr, hx', g7, hks, Ky.ok, hg]; (repeat refine ⟨by omega, ?_⟩); refine η _ ?_; clear η κ) | (refine zd (hK _ ?_); clear hE hK E K) | apply zb | refine zh true rfl (fun _ => ?_) (fun h => (by cases h)) | apply zi
   refine zbR ?_; simp only [go_sem, simprocAttr]; refine hE.2.2 _ ?_
   repeat' first | apply zM | apply zN | apply zO
   exact zbj ⟨⟨_, ziD hno hx hm, rfl⟩, hlo.trans (zak rfl)⟩
  ·rw [if_neg hm] at hg
   have hE2 := hE.put x
   rw [← hnx] at hE2
   generalize hpu : zaE E (.s x) (.ag []) = E2 at hE2
   repeat' first | apply zg | apply zj | refine zf rfl fun K E hK hE => ?_ | (refine za fun κ η => ?_; simp only [go_sem, simprocAttr, hx', g7, hks, Ky.ok, hg, hpu]; (repeat refine ⟨by omega, ?_⟩); refine η _ ?_; clear η κ) | (refine zd (hK _ ?_); clear hE hK E K) | apply zb | refine zh false rfl (fun h => (by cases h)) fun _ => ?_ | apply zq | apply zi | apply zs
   refine ⟨l.length - (k + 1), by omega, k + 1, rfl, by omega, fun j y hj hy => ?_, _, _, _, E2, zp rfl ⟨rfl, rfl, rfl, rfl, trivial⟩ trivial, rfl, hE2, hlo.trans (zak rfl)⟩
   rcases Nat.lt_or_eq_of_le (Nat.lt_succ_iff.1 hj) with h | rfl
   ·exact hno j y h hy
   ·rw [hx] at hy; cases hy; exact hm
 ·simp only [decide_eq_false_iff_not] at hq
  repeat' first | apply zt | apply zu | apply zw | apply zx
  exact zcO ⟨rfl, ziE fun j y hj => hno j y (by omega), hlo⟩
end Go.Proofs.YtbhoeanfnbkenaaGreatDoor
namespace Go.Proofs.YtbhoeanfnbkenaaGreatDoor
open Go.RowKit Go.WideMaps
set_option maxRecDepth 100000
set_option linter.unusedSimpArgs false
variable (Hy : World → Prop)
attribute [local irreducible] zU zY cwp z1 z6 lpQ z8 asQ bdQ bdY zab zac zad zaa
def laT (l : La) : List ByteArray := [l.name, l.next]
def gtT (g : Gt) : List ByteArray := g.name :: g.ins
def zar (c : Ci) : List ByteArray := c.ins ++ (c.outs ++ (c.las.flatMap laT ++ c.gts.flatMap gtT))
theorem zbL (a b : List ByteArray) : zao (a ++ b) = (zao a).or (zao b) := by
 unfold zao
 rw [List.find?_append, Option.map_or]
theorem zfQ {α β : Type} (l : List α) (f : α → List β) (k : Nat) : l.flatMap f = (l.take k).flatMap f ++ (l.drop k).flatMap f := by
 rw [← List.flatMap_append, List.take_append_drop]
theorem zdZ {α β : Type} {l : List α} {f : α → List β} {k : Nat} {x : α} (h : l[k]? = some x) : (l.take (k + 1)).flatMap f = (l.take k).flatMap f ++ f x := by
 rw [List.take_add_one, h, List.flatMap_append]
 simp
def zfR (l : List Gt) : Prop := ∀ g ∈ l, g.ins.length ≤ 1000000 ∧ g.rows.length ≤ 1000000
set_option maxHeartbeats 4000000 in
theorem zmx (c : Ci) (hc : CFit c) (hg : zfR c.gts) (o : Nat → O) : Ck Hy 79 [.ag (cA c)] o (zao (zar c)) := by
 obtain ⟨ins, outs, las, gts⟩ := c
 obtain ⟨h1, h2, h3, h4⟩ := hc
 simp only at h1 h2 h3 h4 hg
 have e : zao (zar ⟨ins, outs, las, gts⟩) = (zao ins).or ((zao outs).or ((zao (las.flatMap laT)).or (zao (gts.flatMap gtT)))) := by
  unfold zar
  rw [zbL, zbL, zbL]
 have k1 := zfN Hy ins h1
 have k2 := zfN Hy outs h2
 generalize zao (zar ⟨ins, outs, las, gts⟩) = R at e ⊢
 refine zca (cls := fun d => 7500 + d) zB zD Tryz.func79 rfl (by decide) (Nat.le_of_ble_eq_true rfl) ?_
 rw [show Tryz.f79.ntmps = 41 from rfl, zC]
 simp only [List.zipIdx_cons, List.zipIdx_nil, List.map_cons, List.map_nil, Nat.reduceAdd, cA]
 repeat' first | apply zg | refine zf rfl fun K E hK hE => ?_ | (refine za fun κ η => ?_; simp only [go_sem, simprocAttr]; (repeat refine ⟨by omega, ?_⟩); refine η _ ?_; clear η κ) | (refine zd (hK _ ?_); clear hE hK E K) | apply zb
 refine zbS fun κ η => ?_; simp only [go_sem, simprocAttr]; refine ⟨_, _, k1 _, ?_, ?_⟩
 rotate_left
 ·rintro _ o' ⟨⟨w, hw, rfl⟩, ho⟩
  have l1 : Lo o o' := by rw [ho]; exact zak rfl
  (try simp only [go_sem, simprocAttr]); refine hE.2.2 _ ?_
  repeat' apply zM
  exact zbj ⟨⟨w, by rw [e, hw]; rfl, rfl⟩, l1.trans (zak rfl)⟩
 rintro _ o' ⟨rfl, n1, ho⟩
 have l1 : Lo o o' := by rw [ho]; exact zak rfl
 have g1 : o' 7501 = ⟨(o 7501).gen + 1, .cells 26 [.t (.sl (sR ins)), .t (.sl (sR outs)), .t (.sl (lsR las)), .t (.sl (gsR gts))]⟩ := by rw [ho]; rfl
 clear ho
 (try simp only [go_sem, simprocAttr]); refine η _ ?_; clear η κ
 repeat' first | apply zg | refine zf rfl fun K E hK hE => ?_ | (refine za fun κ η => ?_; simp only [go_sem, simprocAttr, g1]; (repeat refine ⟨by omega, ?_⟩); refine η _ ?_; clear η κ) | (refine zd (hK _ ?_); clear hE hK E K) | apply zb
 refine zbS fun κ η => ?_; simp only [go_sem, simprocAttr]; refine ⟨_, _, k2 _, ?_, ?_⟩
 rotate_left
 ·rintro _ o2 ⟨⟨w, hw, rfl⟩, ho⟩
  have l2 : Lo o o2 := by rw [ho]; exact l1
  (try simp only [go_sem, simprocAttr]); refine hE.2.2 _ ?_
  repeat' apply zM
  exact zbj ⟨⟨w, by rw [e, n1, hw]; rfl, rfl⟩, l2.trans (zak rfl)⟩
 rintro _ o2 ⟨rfl, n2, ho⟩
 have l2 : Lo o o2 := by rw [ho]; exact l1
 have g2 : o2 7501 = ⟨(o 7501).gen + 1, .cells 26 [.t (.sl (sR ins)), .t (.sl (sR outs)), .t (.sl (lsR las)), .t (.sl (gsR gts))]⟩ := by rw [ho]; exact g1
 clear ho g1 l1
 (try simp only [go_sem, simprocAttr]); refine η _ ?_; clear η κ
 repeat' first | apply zg | apply zj | refine zf rfl fun K E hK hE => ?_ | (refine za fun κ η => ?_; simp only [go_sem, simprocAttr, g2]; (repeat refine ⟨by omega, ?_⟩); refine η _ ?_; clear η κ) | (refine zd (hK _ ?_); clear hE hK E K) | apply zb
 refine zW (fun m s' => ∃ k : Nat, m = las.length - k ∧ k ≤ las.length ∧ zao ((las.take k).flatMap laT) = none ∧ ∃ F G0 q, s' = nf 41 F G0 [(1, .ptr 7501 q 0), (13, .t (.sl (lsR las))), (14, .t (.i .i64 las.length)), (15, .t (.i .i64 k))] [] ∧ G0 7501 = ⟨q, .cells 26 [.t (.sl (sR ins)), .t (.sl (sR outs)), .t (.sl (lsR las)), .t (.sl (gsR gts))]⟩ ∧ Lo o G0) las.length ?_ ?_
 ·exact ⟨0, by omega, by omega, rfl, _, _, _, zp rfl ⟨rfl, rfl, rfl, rfl, trivial⟩ trivial, g2, l2.trans (zak rfl)⟩
 clear g2 l2
 rintro m s' ⟨k, rfl, hk, hno, F, G0, q, rfl, g1, hlo⟩
 repeat' first | apply zg | refine zf rfl fun K E hK hE => ?_ | (refine za fun κ η => ?_; simp only [go_sem, simprocAttr]; refine η _ ?_; clear η κ) | (refine zd (hK _ ?_); clear hE hK E K) | apply zb
 refine zh _ rfl (fun hq => ?_) (fun hq => ?_)
 ·simp only [decide_eq_true_eq] at hq
  obtain ⟨x, hx⟩ : ∃ x, las[k]? = some x := ⟨_, List.getElem?_eq_getElem (by omega)⟩
  have hx' := zbv hx
  have hs := zdZ (f := laT) hx
  repeat' first | apply zg | apply zj | refine zf rfl fun K E hK hE => ?_ | (refine za fun κ η => ?_; simp only [go_sem, simprocAttr, hx']; (repeat refine ⟨by omega, ?_⟩); refine η _ ?_; clear η κ) | (refine zd (hK _ ?_); clear hE hK E K) | apply zb | apply zi
  refine zbS fun κ η => ?_; simp only [go_sem, simprocAttr]; refine ⟨_, _, ziB Hy (laT x) (by show 2 ≤ 1000000; decide) rfl, ?_, ?_⟩
  rotate_left
  ·rintro _ o3 ⟨⟨w, hw, rfl⟩, ho⟩
   have l3 : Lo o o3 := by rw [ho]; exact hlo.trans (zak rfl)
   (try simp only [go_sem, simprocAttr]); refine hE.2.2 _ ?_
   repeat' first | apply zM | apply zN | apply zO
   refine zbj ⟨⟨w, ?_, rfl⟩, l3.trans (zak rfl)⟩
   rw [e, n1, n2, zfQ las laT (k + 1), zbL, hs, zbL, hno, hw]
   rfl
  rintro _ o3 ⟨rfl, n3, ho⟩
  have l3 : Lo o o3 := by rw [ho]; exact hlo.trans (zak rfl)
  have g3 : o3 7501 = ⟨q, .cells 26 [.t (.sl (sR ins)), .t (.sl (sR outs)), .t (.sl (lsR las)), .t (.sl (gsR gts))]⟩ := by rw [ho]; exact g1
  clear ho
  (try simp only [go_sem, simprocAttr]); refine η _ ?_; clear η κ
  repeat' first | refine zf rfl fun K E hK hE => ?_ | (refine za fun κ η => ?_; simp only [go_sem, simprocAttr]; (repeat refine ⟨by omega, ?_⟩); refine η _ ?_; clear η κ) | (refine zd (hK _ ?_); clear hE hK E K) | apply zb | apply zq | apply zs
  refine ⟨las.length - (k + 1), by omega, k + 1, rfl, by omega, ?_, _, _, _, zp rfl ⟨rfl, rfl, rfl, rfl, trivial⟩ trivial, g3, l3.trans (zak rfl)⟩
  rw [hs, zbL, hno, n3]
  rfl
 simp only [decide_eq_false_iff_not] at hq
 rw [List.take_of_length_le (by omega)] at hno
 rw [n1, n2, hno] at e
 clear hq hk hno n1 n2
 repeat' first | apply zg | apply zj | refine zf rfl fun K E hK hE => ?_ | (refine za fun κ η => ?_; simp only [go_sem, simprocAttr, g1]; (repeat refine ⟨by omega, ?_⟩); refine η _ ?_; clear η κ) | (refine zd (hK _ ?_); clear hE hK E K) | apply zb | apply zt | apply zu | apply zw | apply zx
 refine zW (fun m s' => ∃ k : Nat, m = gts.length - k ∧ k ≤ gts.length ∧ zao ((gts.take k).flatMap gtT) = none ∧ ∃ F G0, s' = nf 41 F G0 [(27, .t (.sl (gsR gts))), (28, .t (.i .i64 gts.length)), (29, .t (.i .i64 k))] [] ∧ Lo o G0) gts.length ?_ ?_
 ·exact ⟨0, by omega, by omega, rfl, _, _, zp rfl ⟨rfl, rfl, rfl, trivial⟩ trivial, hlo.trans (zak rfl)⟩
 clear hlo g1
 rintro m s' ⟨k, rfl, hk, hno, F, G0, rfl, hlo⟩
 repeat' first | apply zg | refine zf rfl fun K E hK hE => ?_ | (refine za fun κ η => ?_; simp only [go_sem, simprocAttr]; refine η _ ?_; clear η κ) | (refine zd (hK _ ?_); clear hE hK E K) | apply zb
 refine zh _ rfl (fun hq => ?_) (fun hq => ?_)
 ·simp only [decide_eq_true_eq] at hq
  obtain ⟨x, hx⟩ : ∃ x, gts[k]? = some x := ⟨_, List.getElem?_eq_getElem (by omega)⟩
  have hx' := zaQ hx
  have hs := zdZ (f := gtT) hx
  have hgx := (hg x (List.mem_of_getElem? hx)).1
  have k3 := zfN Hy x.ins hgx
  have hsp : zao (gtT x) = (zao [x.name]).or (zao x.ins) := zbL [x.name] x.ins
  repeat' first | apply zg | apply zj | refine zf rfl fun K E hK hE => ?_ | (refine za fun κ η => ?_; simp only [go_sem, simprocAttr, hx']; (repeat refine ⟨by omega, ?_⟩); refine η _ ?_; clear η κ) | (refine zd (hK _ ?_); clear hE hK E K) | apply zb | apply zi
  refine zbS fun κ η => ?_; simp only [go_sem, simprocAttr]; refine ⟨_, _, ziB Hy [x.name] (by show 1 ≤ 1000000; decide) rfl, ?_, ?_⟩
  rotate_left
  ·rintro _ o3 ⟨⟨w, hw, rfl⟩, ho⟩
   have l3 : Lo o o3 := by rw [ho]; exact hlo.trans (zak rfl)
   (try simp only [go_sem, simprocAttr]); refine hE.2.2 _ ?_
   repeat' first | apply zM | apply zN | apply zO
   refine zbj ⟨⟨w, ?_, rfl⟩, l3.trans (zak rfl)⟩
   rw [e, zfQ gts gtT (k + 1), zbL, hs, zbL, hno, hsp, hw]
   rfl
  rintro _ o3 ⟨rfl, n3, ho⟩
  have l3 : Lo o o3 := by rw [ho]; exact hlo.trans (zak rfl)
  have g3 : o3 7505 = ⟨(G0 7505).gen + 1, .cells 47 [.t (.s x.name), .t (.i .i64 x.op), .t (.sl (sR x.ins)), .t (.sl (rR x.rows)), .t (.b x.off)]⟩ := by rw [ho]; rfl
  clear ho
  (try simp only [go_sem, simprocAttr]); refine η _ ?_; clear η κ
  repeat' first | refine zf rfl fun K E hK hE => ?_ | (refine za fun κ η => ?_; simp only [go_sem, simprocAttr, g3]; (repeat refine ⟨by omega, ?_⟩); refine η _ ?_; clear η κ) | (refine zd (hK _ ?_); clear hE hK E K) | apply zb
  refine zbS fun κ η => ?_; simp only [go_sem, simprocAttr]; refine ⟨_, _, k3 _, ?_, ?_⟩
  rotate_left
  ·rintro _ o4 ⟨⟨w, hw, rfl⟩, ho⟩
   have l4 : Lo o o4 := by rw [ho]; exact l3
   (try simp only [go_sem, simprocAttr]); refine hE.2.2 _ ?_
   repeat' first | apply zM | apply zN | apply zO
   refine zbj ⟨⟨w, ?_, rfl⟩, l4.trans (zak rfl)⟩
   rw [e, zfQ gts gtT (k + 1), zbL, hs, zbL, hno, hsp, n3, hw]
   rfl
  rintro _ o4 ⟨rfl, n4, ho⟩
  have l4 : Lo o o4 := by rw [ho]; exact l3
  clear ho
  (try simp only [go_sem, simprocAttr]); refine η _ ?_; clear η κ
  repeat' first | refine zf rfl fun K E hK hE => ?_ | (refine za fun κ η => ?_; simp only [go_sem, simprocAttr]; (repeat refine ⟨by omega, ?_⟩); refine η _ ?_; clear η κ) | (refine zd (hK _ ?_); clear hE hK E K) | apply zb | apply zq | apply zs
  refine ⟨gts.length - (k + 1), by omega, k + 1, rfl, by omega, ?_, _, _, zp rfl ⟨rfl, rfl, rfl, trivial⟩ trivial, l4.trans (zak rfl)⟩
  rw [hs, zbL, hno, hsp, n3, n4]
  rfl
 ·simp only [decide_eq_false_iff_not] at hq
  rw [List.take_of_length_le (by omega)] at hno
  repeat' first | apply zt | apply zu | apply zw | apply zx
  exact zcO ⟨rfl, by rw [e, hno]; rfl, hlo⟩
end Go.Proofs.YtbhoeanfnbkenaaGreatDoor
