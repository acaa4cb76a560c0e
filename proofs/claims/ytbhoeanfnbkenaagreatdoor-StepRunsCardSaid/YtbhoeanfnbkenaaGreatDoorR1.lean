import Derived.Test.YtbhoeanfnbkenaaGreatDoorQ2
namespace Go.Proofs.YtbhoeanfnbkenaaGreatDoor
open Go.RowKit
set_option maxRecDepth 100000
set_option linter.unusedSimpArgs false
variable (Hy : World → Prop)
attribute [local irreducible] zU zY cwp z1 z6 lpQ z8 asQ bdQ bdY zab zac zad zaa
structure La where
 name : ByteArray
 next : ByteArray
 init : Int
 deriving DecidableEq
structure Ci where
 ins : List ByteArray
 outs : List ByteArray
 las : List La
 gts : List Gt
 deriving DecidableEq
def sR (l : List ByteArray) : List (List T) := l.map fun x => [.s x]
def rR (l : List Row) : List (List T) := l.map fun x => [.s (mk x)]
def lsR (l : List La) : List (List T) := l.map fun x => [.s x.name, .s x.next, .i .i64 x.init]
def gsR (l : List Gt) : List (List T) := l.map fun g => [.s g.name, .i .i64 g.op, .sl (sR g.ins), .sl (rR g.rows), .b g.off]
def cE (c : Ci) : List T := [.sl (sR c.ins), .sl (sR c.outs), .sl (lsR c.las), .sl (gsR c.gts)]
def cA (c : Ci) : List A := [.t (.sl (sR c.ins)), .t (.sl (sR c.outs)), .t (.sl (lsR c.las)), .t (.sl (gsR c.gts))]
theorem zdu (l : List ByteArray) : (sR l).length = l.length := List.length_map _
theorem zf0 (l : List Row) : (rR l).length = l.length := List.length_map _
theorem zi7 (l : List La) : (lsR l).length = l.length := List.length_map _
theorem zi8 (l : List Gt) : (gsR l).length = l.length := List.length_map _
attribute [go_sem] zdu zf0 zi7 zi8
theorem za5 {l : List ByteArray} {k : Nat} {x : ByteArray} (h : l[k]? = some x) : (sR l)[k]? = some [.s x] := by unfold sR; rw [List.getElem?_map, h]; rfl
theorem zbv {l : List La} {k : Nat} {x : La} (h : l[k]? = some x) : (lsR l)[k]? = some [.s x.name, .s x.next, .i .i64 x.init] := by unfold lsR; rw [List.getElem?_map, h]; rfl
theorem zaQ {l : List Gt} {k : Nat} {g : Gt} (h : l[k]? = some g) : (gsR l)[k]? = some [.s g.name, .i .i64 g.op, .sl (sR g.ins), .sl (rR g.rows), .b g.off] := by unfold gsR; rw [List.getElem?_map, h]; rfl
theorem zbs (l : List ByteArray) : ∀ e ∈ sR l, e.length = 1 := fun e he => by
 obtain ⟨x, _, rfl⟩ := List.mem_map.1 he
 rfl
theorem zbC (a b : List ByteArray) : sR (a ++ b) = sR a ++ sR b := List.map_append
def z2 (c : Ci) : List ByteArray := c.ins ++ (c.las.map (·.name) ++ c.gts.map (·.name))
def zf5 (c : Prop) (o1 : Nat → O) (r2 : List A) (o2 : Nat → O) (rs : List A) (o' : Nat → O) : Prop := (rs = r2 ∧ o' = o2) ∨ (c ∧ rs = [.nilS] ∧ o' = o1)
structure CFit (c : Ci) : Prop where
 ins : c.ins.length ≤ 1000000
 outs : c.outs.length ≤ 1000000
 las : c.las.length ≤ 1000000
 gts : c.gts.length ≤ 1000000
theorem zf6 (w : List (List T)) (hz : ∀ e ∈ w, e.length = 1) (h : w.length ≤ 1000000) {o : Nat → O} {R : List Nat} (hR : 2005 ∈ R) : Cd Tryz.prog Hy 38 [.t (.sl w)] o R [(2005, ⟨(o 2005).gen + 1 + 1, .row 9 1 w⟩)] (.row 2005 ((o 2005).gen + 1 + 1)) := by
 intro o2 ho
 rw [← ho 2005 hR]
 clear ho
 refine Cm.nilRow (R := zf5 (w = []) o2 [.row 2005 ((o2 2005).gen + 1 + 1)] fun j => zae [(2005, ⟨(o2 2005).gen + 1 + 1, .row 9 1 w⟩)] j (o2 j)) ?_ (fun rs o' hr => ?_)
 ·refine zax (cls := fun d => 2000 + d) zB zD Tryz.func38 rfl (by decide) (Nat.le_of_ble_eq_true rfl) ?_
  rw [show Tryz.f38.ntmps = 8 from rfl, zC]
  simp only [List.zipIdx_cons, List.zipIdx_nil, List.map_cons, List.map_nil, Nat.reduceAdd]
  repeat' first | apply zg | refine zf rfl fun K E hK hE => ?_ | (refine za fun κ η => ?_; simp only [go_sem, simprocAttr]; refine η _ ?_; clear η κ) | (refine zd (hK _ ?_); clear hE hK E K) | apply zb
  refine zfm fun κ η => ?_; simp only [go_sem, simprocAttr]; refine ⟨η _ ?_, fun nil_ => η _ ?_⟩ <;> clear η κ
  ·repeat' first | (refine zd (hK _ ?_); clear hE hK E K) | apply zb
   refine zh _ rfl (fun hq => (by cases hq)) (fun hq => ?_)
   repeat' first | apply zg | refine zf rfl fun K E hK hE => ?_ | (refine za fun κ η => ?_; simp only [go_sem, simprocAttr, hz]; (repeat refine ⟨by omega, ?_⟩); refine η _ ?_; clear η κ) | (refine zd (hK _ ?_); clear hE hK E K) | apply zb | apply zi | apply zk | (apply zm; apply zn; simp only [go_sem, simprocAttr, hz])
   refine .inl ⟨rfl, funext fun j => ?_⟩
   rw [za7]
   by_cases hj : j = 2005
   ·subst hj; rfl
   ·simp only [zae, hj, if_false]
  ·repeat' first | (refine zd (hK _ ?_); clear hE hK E K) | apply zb
   refine zh _ rfl (fun hq => ?_) (fun hq => (by cases hq))
   repeat' first | apply zg | refine zf rfl fun K E hK hE => ?_ | (refine za fun κ η => ?_; simp only [go_sem, simprocAttr, nil_]; refine η _ ?_; clear η κ) | (refine zd (hK _ ?_); clear hE hK E K) | apply zb | apply zk | apply zy | (apply zm; apply zn; simp only [go_sem, simprocAttr, nil_])
   exact .inr ⟨trivial, rfl, rfl⟩
 ·rcases hr with ⟨rfl, rfl⟩ | ⟨rfl, rfl, rfl⟩
  ·exact .inl ⟨rfl, rfl⟩
  ·exact .inr ⟨rfl, 2005, (o' 2005).gen + 1 + 1, 9, 1, by omega, rfl, rfl⟩
set_option maxHeartbeats 2000000 in
theorem zeT (c : Ci) (hc : CFit c) : Ct Tryz.prog Hy 43 [.ag (cE c)] [.sl (sR (z2 c))] := by
 obtain ⟨ins, outs, las, gts⟩ := c
 obtain ⟨h1, _, h3, h4⟩ := hc
 simp only at h1 h3 h4
 have hcl := fun (o : Nat → O) => zf6 Hy (sR ins) (zbs ins) (by rw [zdu]; exact h1) (o := o) (R := [] ++ [2005]) (by simp)
 refine zI (cls := _root_.id) zB zD Tryz.func43 rfl (by decide) (Nat.le_of_ble_eq_true rfl) ?_
 rw [show Tryz.f43.ntmps = 38 from rfl, zC]
 simp only [List.zipIdx_cons, List.zipIdx_nil, List.map_cons, List.map_nil, Nat.reduceAdd, cE]
 repeat' first | apply zg | refine zf rfl fun K E hK hE => ?_ | (refine za fun κ η => ?_; simp only [go_sem, simprocAttr]; (repeat refine ⟨by omega, ?_⟩); refine η _ ?_; clear η κ) | (refine zd (hK _ ?_); clear hE hK E K) | apply zb
 refine zcH (R := []) (W := [2005]) fun κ η => ?_; simp only [go_sem, simprocAttr]; refine ⟨_, _, ?wr_, hcl _, ?_⟩; (case wr_ => rfl); (try simp only [go_sem, simprocAttr]); refine η _ ?_; clear η κ
 repeat' first | apply zg | apply zj | refine zf rfl fun K E hK hE => ?_ | (refine za fun κ η => ?_; simp only [go_sem, simprocAttr]; (repeat refine ⟨by omega, ?_⟩); refine η _ ?_; clear η κ) | (refine zd (hK _ ?_); clear hE hK E K) | apply zb
 refine zW (fun m s' => ∃ k : Nat, m = las.length - k ∧ k ≤ las.length ∧ ∃ F G0 q, s' = nf 38 F G0 [(1, .ptr 1 1 0), (3, .row 2005 q), (12, .t (.sl (lsR las))), (13, .t (.i .i64 las.length)), (14, .t (.i .i64 k))] [] ∧ G0 1 = ⟨1, .cells 26 [.t (.sl (sR ins)), .t (.sl (sR outs)), .t (.sl (lsR las)), .t (.sl (gsR gts))]⟩ ∧ G0 2005 = ⟨q, .row 9 1 (sR (ins ++ (las.take k).map (·.name)))⟩) las.length ?_ ?_
 ·exact ⟨0, by omega, by omega, _, _, _, zp rfl ⟨rfl, rfl, rfl, rfl, rfl, trivial⟩ trivial, rfl, by rw [List.take_zero, List.map_nil, List.append_nil]; rfl⟩
 rintro m s' ⟨k, rfl, hk, F, G0, q, rfl, g1, g2⟩
 have hb : (ins ++ (las.take k).map (·.name)).length ≤ 2000000 := by rw [List.length_append, List.length_map, List.length_take]; omega
 repeat' first | apply zg | refine zf rfl fun K E hK hE => ?_ | (refine za fun κ η => ?_; simp only [go_sem, simprocAttr]; refine η _ ?_; clear η κ) | (refine zd (hK _ ?_); clear hE hK E K) | apply zb
 refine zh _ rfl (fun hq => ?_) (fun hq => ?_)
 ·simp only [decide_eq_true_eq] at hq
  obtain ⟨x, hx⟩ : ∃ x, las[k]? = some x := ⟨_, List.getElem?_eq_getElem (by omega)⟩
  have hx' := zbv hx
  have hs : sR (ins ++ (las.take (k + 1)).map (·.name)) = sR (ins ++ (las.take k).map (·.name)) ++ [[.s x.name]] := by
   rw [List.take_add_one, hx, List.map_append, ← List.append_assoc, zbC]
   rfl
  generalize ins ++ (las.take k).map (·.name) = w at g2 hs hb
  repeat' first | apply zg | apply zj | refine zf rfl fun K E hK hE => ?_ | (refine za fun κ η => ?_; simp only [go_sem, simprocAttr, hx', g2]; (repeat refine ⟨by omega, ?_⟩); refine η _ ?_; clear η κ) | (refine zd (hK _ ?_); clear hE hK E K) | apply zb | apply zq | apply zi | apply zs
  exact ⟨las.length - (k + 1), by omega, k + 1, rfl, by omega, _, _, _, zp rfl ⟨rfl, rfl, rfl, rfl, rfl, trivial⟩ trivial, g1, by rw [hs]; rfl⟩
 ·simp only [decide_eq_false_iff_not] at hq
  rw [List.take_of_length_le (by omega)] at g2
  repeat' first | apply zg | apply zj | refine zf rfl fun K E hK hE => ?_ | (refine za fun κ η => ?_; simp only [go_sem, simprocAttr, g1]; (repeat refine ⟨by omega, ?_⟩); refine η _ ?_; clear η κ) | (refine zd (hK _ ?_); clear hE hK E K) | apply zb | apply zt | apply zu | apply zw | apply zx
  refine zW (fun m s' => ∃ k : Nat, m = gts.length - k ∧ k ≤ gts.length ∧ ∃ F G0 q, s' = nf 38 F G0 [(3, .row 2005 q), (25, .t (.sl (gsR gts))), (26, .t (.i .i64 gts.length)), (27, .t (.i .i64 k))] [] ∧ G0 2005 = ⟨q, .row 9 1 (sR (ins ++ (las.map (·.name) ++ (gts.take k).map (·.name))))⟩) gts.length ?_ ?_
  ·exact ⟨0, by omega, by omega, _, _, _, zp rfl ⟨rfl, rfl, rfl, rfl, trivial⟩ trivial, by rw [List.take_zero, List.map_nil, List.append_nil]; exact g2⟩
  clear g1 g2 hb
  rintro m s' ⟨k, rfl, hk, F, G0, q, rfl, g2⟩
  have hb : (ins ++ (las.map (·.name) ++ (gts.take k).map (·.name))).length ≤ 3000000 := by rw [List.length_append, List.length_append, List.length_map, List.length_map, List.length_take]; omega
  repeat' first | apply zg | refine zf rfl fun K E hK hE => ?_ | (refine za fun κ η => ?_; simp only [go_sem, simprocAttr]; refine η _ ?_; clear η κ) | (refine zd (hK _ ?_); clear hE hK E K) | apply zb
  refine zh _ rfl (fun hq => ?_) (fun hq => ?_)
  ·simp only [decide_eq_true_eq] at hq
   obtain ⟨x, hx⟩ : ∃ x, gts[k]? = some x := ⟨_, List.getElem?_eq_getElem (by omega)⟩
   have hx' := zaQ hx
   have hs : sR (ins ++ (las.map (·.name) ++ (gts.take (k + 1)).map (·.name))) = sR (ins ++ (las.map (·.name) ++ (gts.take k).map (·.name))) ++ [[.s x.name]] := by
    rw [List.take_add_one, hx, List.map_append, ← List.append_assoc, ← List.append_assoc, ← List.append_assoc, zbC]
    rfl
   generalize ins ++ (las.map (·.name) ++ (gts.take k).map (·.name)) = w at g2 hs hb
   repeat' first | apply zg | apply zj | refine zf rfl fun K E hK hE => ?_ | (refine za fun κ η => ?_; simp only [go_sem, simprocAttr, hx', g2]; (repeat refine ⟨by omega, ?_⟩); refine η _ ?_; clear η κ) | (refine zd (hK _ ?_); clear hE hK E K) | apply zb | apply zq | apply zi | apply zs
   exact ⟨gts.length - (k + 1), by omega, k + 1, rfl, by omega, _, _, _, zp rfl ⟨rfl, rfl, rfl, rfl, trivial⟩ trivial, by rw [hs]; rfl⟩
  ·simp only [decide_eq_false_iff_not] at hq
   rw [List.take_of_length_le (by omega)] at g2
   have hz := zbs (z2 ⟨ins, outs, las, gts⟩)
   have g2 : G0 2005 = ⟨q, .row 9 1 (sR (z2 ⟨ins, outs, las, gts⟩))⟩ := g2
   repeat' first | apply zg | refine zf rfl fun K E hK hE => ?_ | (refine za fun κ η => ?_; simp only [go_sem, simprocAttr, g2]; refine η _ ?_; clear η κ) | (refine zd (hK _ ?_); clear hE hK E K) | apply zb | apply zt | apply zk | apply zu | apply zw | apply zx | (apply zm; apply zn; simp only [go_sem, simprocAttr, g2])
end Go.Proofs.YtbhoeanfnbkenaaGreatDoor
