import Derived.Test.YtbhoeanfnbkenaaGreatDoorR12
import Derived.Test.YtbhoeanfnbkenaaGreatDoorR8
import Derived.Test.YtbhoeanfnbkenaaGreatDoorR18
import Derived.Test.YtbhoeanfnbkenaaGreatDoorR32
namespace Go.Proofs.YtbhoeanfnbkenaaGreatDoor
open Go.RowKit Go.WideMaps
set_option maxRecDepth 100000
set_option linter.unusedSimpArgs false
variable (Hy : World → Prop)
attribute [local irreducible] zU zY cwp z1 z6 lpQ z8 asQ bdQ bdY zab zac zad zaa
theorem zlg (c : Ci) (hr : CRoom c) (hz : CSz c) : Ct Tryz.prog Hy 45 [.ag (cE c)] [.b (decide ((zai c).1 = 0))] := by
 have hck := fun (o : Nat → O) => Cm.of_ct (o := o) (zgg Hy c hr hz)
 obtain ⟨ins, outs, las, gts⟩ := c
 simp only [cE] at hck ⊢
 refine zI (cls := _root_.id) zB zD Tryz.func45 rfl (by decide) (Nat.le_of_ble_eq_true rfl) ?_
 rw [show Tryz.f45.ntmps = 12 from rfl, zC]
 simp only [List.zipIdx_cons, List.zipIdx_nil, List.map_cons, List.map_nil, Nat.reduceAdd, cE]
 repeat' first | apply zg | refine zf rfl fun K E hK hE => ?_ | (refine za fun κ η => ?_; simp only [go_sem, simprocAttr]; refine η _ ?_; clear η κ) | (refine zd (hK _ ?_); clear hE hK E K) | apply zb
 refine zaI fun κ η => ?_; simp only [go_sem, simprocAttr]; refine ⟨_, (hck _), ?_⟩; rintro _ _ ⟨rfl, rfl⟩; simp only [go_sem, simprocAttr]; refine η _ ?_; clear η κ
 repeat' first | apply zg | refine zf rfl fun K E hK hE => ?_ | (refine za fun κ η => ?_; simp only [go_sem, simprocAttr]; refine η _ ?_; clear η κ) | (refine zd (hK _ ?_); clear hE hK E K) | apply zb | apply zk | (apply zm; apply zn; simp only [go_sem, simprocAttr])
set_option maxHeartbeats 4000000 in
theorem zlh (c : Ci) (g : Gt) (th : Nat → Bool) (hg : c.gts.length ≤ 1000000) (hi : g.ins.length ≤ 1000000) : Ct Tryz.prog Hy 46 [.ag (cE c), .ag (gT g), .sl (bR c.gts.length th)] [.b (g.ins.any (zaO c.gts th))] := by
 obtain ⟨R, hRe⟩ : ∃ R, R = g.ins.any (zaO c.gts th) := ⟨_, rfl⟩
 rw [← hRe]
 obtain ⟨ins, outs, las, gts⟩ := c
 obtain ⟨name, op, gi, rows, off⟩ := g
 simp only at hg hi hRe
 refine zI (cls := _root_.id) zB zD Tryz.func46 rfl (by decide) (Nat.le_of_ble_eq_true rfl) ?_
 rw [show Tryz.f46.ntmps = 42 from rfl, zC]
 simp only [List.zipIdx_cons, List.zipIdx_nil, List.map_cons, List.map_nil, Nat.reduceAdd, cE, gT]
 repeat' first | apply zg | apply zj | refine zf rfl fun K E hK hE => ?_ | (refine za fun κ η => ?_; simp only [go_sem, simprocAttr]; refine η _ ?_; clear η κ) | (refine zd (hK _ ?_); clear hE hK E K) | apply zb
 refine zW (fun m s' => ∃ p : Nat, m = gi.length - p ∧ p ≤ gi.length ∧ (∀ j x, j < p → gi[j]? = some x → zaO gts th x = false) ∧ ∃ F G0, s' = nf 42 F G0 [(2, .t (.sl (bR gts.length th))), (3, .ptr 3 1 0), (4, .ptr 4 1 0), (7, .t (.i .i64 p))] [] ∧ G0 3 = ⟨1, .cells 26 [.t (.sl (sR ins)), .t (.sl (sR outs)), .t (.sl (lsR las)), .t (.sl (gsR gts))]⟩ ∧ G0 4 = ⟨1, .cells 47 [.t (.s name), .t (.i .i64 op), .t (.sl (sR gi)), .t (.sl (rR rows)), .t (.b off)]⟩) gi.length ?_ ?_
 ·exact ⟨0, by omega, by omega, fun j x hj => absurd hj (Nat.not_lt_zero j), _, _, zp rfl ⟨rfl, rfl, rfl, rfl, trivial⟩ trivial, rfl, rfl⟩
 rintro m s' ⟨p, rfl, hp, hno, F, G0, rfl, h3, h4⟩
 by_cases hd : p < gi.length
 ·have hd' : ((p : Int) < gi.length) = True := eq_true (by omega)
  obtain ⟨x, hx⟩ : ∃ x, gi[p]? = some x := ⟨_, List.getElem?_eq_getElem hd⟩
  have hx' := za5 hx
  repeat' first | apply zg | apply zj | refine zf rfl fun K E hK hE => ?_ | (refine za fun κ η => ?_; simp only [go_sem, simprocAttr, h3, h4, hd']; (repeat refine ⟨by omega, ?_⟩); refine η _ ?_; clear η κ) | (refine zd (hK _ ?_); clear hE hK E K) | apply zb | refine zh true rfl (fun _ => ?_) (fun h => (by cases h)) | apply zi
  refine zW (fun m s' => ∃ k : Nat, m = gts.length - k ∧ k ≤ gts.length ∧ (∀ j, j < k → (gat gts j).name = x → th j = true) ∧ ∃ F G0, s' = nf 42 F G0 [(2, .t (.sl (bR gts.length th))), (3, .ptr 3 1 0), (4, .ptr 4 1 0), (7, .t (.i .i64 p)), (8, .t (.i .i64 k))] [] ∧ G0 3 = ⟨1, .cells 26 [.t (.sl (sR ins)), .t (.sl (sR outs)), .t (.sl (lsR las)), .t (.sl (gsR gts))]⟩ ∧ G0 4 = ⟨1, .cells 47 [.t (.s name), .t (.i .i64 op), .t (.sl (sR gi)), .t (.sl (rR rows)), .t (.b off)]⟩) gts.length ?_ ?_
  ·exact ⟨0, by omega, by omega, fun j hj => absurd hj (Nat.not_lt_zero j), _, _, zp rfl ⟨rfl, rfl, rfl, rfl, rfl, trivial⟩ trivial, h3, h4⟩
  clear h3 h4
  rintro m s' ⟨k, rfl, hk, hnk, F, G0, rfl, h3, h4⟩
  by_cases he : k < gts.length
  ·have he' : ((k : Int) < gts.length) = True := eq_true (by omega)
   have hgk := zaQ (zbU he)
   have hbk := zdw (th := th) he
   by_cases hnm : (gat gts k).name = x
   ·have hnm' := eq_true hnm
    cases ht : th k with
    | false =>
     rw [ht] at hbk
     have hR1 : R = true := by
      rw [hRe, List.any_eq_true]
      exact ⟨x, List.mem_of_getElem? hx, (zch _ _ _).2 ⟨k, he, hnm, ht⟩⟩
     subst hR1
     repeat' first | apply zg | apply zj | refine zf rfl fun K E hK hE => ?_ | refine zG rfl (by kernel_rfl) fun K E hK hE => ?_ | ((first | refine za fun κ η => ?_ | refine zr (by kernel_rfl) fun κ η => ?_ | refine zK (by kernel_rfl) rfl fun κ η => ?_); simp only [go_sem, simprocAttr, h3, h4, he', hgk, hx', hnm', decide_true, hbk]; (repeat refine ⟨by omega, ?_⟩); refine η _ ?_; clear η κ) | (refine zd (hK _ ?_); clear hE hK E K) | apply zb | refine zh true rfl (fun _ => ?_) (fun h => (by cases h)) | (refine zH (hK _ ?_); clear hE hK E K) | apply zi | apply zk | apply zy | apply zJ | apply zL | (apply zm; apply zn; simp only [go_sem, simprocAttr, h3, h4, he', hgk, hx', hnm', decide_true, hbk])
    | true =>
     rw [ht] at hbk
     repeat' first | apply zg | apply zj | refine zf rfl fun K E hK hE => ?_ | refine zG rfl (by kernel_rfl) fun K E hK hE => ?_ | ((first | refine za fun κ η => ?_ | refine zr (by kernel_rfl) fun κ η => ?_ | refine zK (by kernel_rfl) rfl fun κ η => ?_); simp only [go_sem, simprocAttr, h3, h4, he', hgk, hx', hnm', decide_true, hbk]; (repeat refine ⟨by omega, ?_⟩); refine η _ ?_; clear η κ) | (refine zd (hK _ ?_); clear hE hK E K) | apply zb | refine zh true rfl (fun _ => ?_) (fun h => (by cases h)) | refine zh false rfl (fun h => (by cases h)) fun _ => ?_ | (refine zH (hK _ ?_); clear hE hK E K) | apply zq | apply zi | apply zs
     exact ⟨gts.length - (k + 1), by omega, k + 1, rfl, by omega, fun j hj hjx => (Nat.lt_or_eq_of_le (Nat.lt_succ_iff.1 hj)).elim (fun h => hnk j h hjx) (fun h => h ▸ ht), _, _, zp rfl ⟨rfl, rfl, rfl, rfl, rfl, trivial⟩ trivial, h3, h4⟩
   ·have hnm' := eq_false hnm
    repeat' first | apply zg | apply zj | refine zf rfl fun K E hK hE => ?_ | refine zG rfl (by kernel_rfl) fun K E hK hE => ?_ | ((first | refine za fun κ η => ?_ | refine zr (by kernel_rfl) fun κ η => ?_ | refine zK (by kernel_rfl) rfl fun κ η => ?_); simp only [go_sem, simprocAttr, h3, h4, he', hgk, hx', hnm', decide_false, hbk]; (repeat refine ⟨by omega, ?_⟩); refine η _ ?_; clear η κ) | (refine zd (hK _ ?_); clear hE hK E K) | apply zb | refine zh true rfl (fun _ => ?_) (fun h => (by cases h)) | refine zh false rfl (fun h => (by cases h)) fun _ => ?_ | (refine zH (hK _ ?_); clear hE hK E K) | apply zq | apply zi | apply zs
    exact ⟨gts.length - (k + 1), by omega, k + 1, rfl, by omega, fun j hj hjx => (Nat.lt_or_eq_of_le (Nat.lt_succ_iff.1 hj)).elim (fun h => hnk j h hjx) (fun h => absurd (h ▸ hjx) hnm), _, _, zp rfl ⟨rfl, rfl, rfl, rfl, rfl, trivial⟩ trivial, h3, h4⟩
  ·have he' : ((k : Int) < gts.length) = False := eq_false (by omega)
   repeat' first | apply zg | refine zf rfl fun K E hK hE => ?_ | (refine za fun κ η => ?_; simp only [go_sem, simprocAttr, h3, h4, he']; (repeat refine ⟨by omega, ?_⟩); refine η _ ?_; clear η κ) | (refine zd (hK _ ?_); clear hE hK E K) | apply zb | refine zh false rfl (fun h => (by cases h)) fun _ => ?_ | apply zq | apply zt | apply zu | apply zw | apply zx | apply zs
   refine ⟨gi.length - (p + 1), by omega, p + 1, rfl, by omega, fun j y hj hy => ?_, _, _, zp rfl ⟨rfl, rfl, rfl, rfl, trivial⟩ trivial, h3, h4⟩
   rcases Nat.lt_or_eq_of_le (Nat.lt_succ_iff.1 hj) with h | rfl
   ·exact hno j y h hy
   ·rw [hx] at hy; cases hy
    exact zmd fun j hj => hnk j (by omega)
 ·have hd' : ((p : Int) < gi.length) = False := eq_false (by omega)
  have hR0 : R = false := by
   rw [hRe, List.any_eq_false]
   intro x hx
   obtain ⟨j, hj⟩ := List.getElem?_of_mem hx
   rw [hno j x (by have := (List.getElem?_eq_some_iff.1 hj).1; omega) hj]
   decide
  subst hR0
  repeat' first | apply zg | refine zf rfl fun K E hK hE => ?_ | (refine za fun κ η => ?_; simp only [go_sem, simprocAttr, h3, h4, hd']; (repeat refine ⟨by omega, ?_⟩); refine η _ ?_; clear η κ) | (refine zd (hK _ ?_); clear hE hK E K) | apply zb | refine zh false rfl (fun h => (by cases h)) fun _ => ?_ | apply zt | apply zk | apply zu | apply zw | apply zx | (apply zm; apply zn; simp only [go_sem, simprocAttr, h3, h4, hd'])
end Go.Proofs.YtbhoeanfnbkenaaGreatDoor
namespace Go.Proofs.YtbhoeanfnbkenaaGreatDoor
open Go.RowKit Go.WideMaps
set_option maxRecDepth 100000
set_option linter.unusedSimpArgs false
variable (Hy : World → Prop)
attribute [local irreducible] zU zY cwp z1 z6 lpQ z8 asQ bdQ bdY zab zac zad zaa
set_option maxHeartbeats 8000000 in
theorem zhQ (c : Ci) (hr : CRoom c) (hz : CSz c) : Ct Tryz.prog Hy 29 [.ag (cE c)] [.sl (iR (zaf (zbD c).1)), .sl (sR (zbD c).2)] := by
 have hri := fun (o : Nat → O) => Cm.of_ct (o := o) (zlg Hy c hr hz)
 by_cases h0 : (zai c).1 = 0
 ·have hs : zbD c = ((zZ c.gts).1, za0 c.gts) := if_pos h0
  have hco := zdv h0
  have hn := hco.n200
  have hwt := fun g th hi => zlh Hy c g th (by omega) hi
  have hi8 := hco.ins
  rw [hs]
  rw [decide_eq_true h0] at hri
  have hz0 : List.replicate c.gts.length [T.b false] = bR c.gts.length zaq := by rw [zf9, zeO]
  obtain ⟨ins, outs, las, gts⟩ := c
  simp only at hn hi8 hz0
  simp only [cE, gT] at hri hwt ⊢
  refine zI (cls := _root_.id) zB zD Tryz.func29 rfl (by decide) (Nat.le_of_ble_eq_true rfl) ?_
  rw [show Tryz.f29.ntmps = 77 from rfl, zC]
  simp only [List.zipIdx_cons, List.zipIdx_nil, List.map_cons, List.map_nil, Nat.reduceAdd, cE]
  repeat' first | apply zg | refine zf rfl fun K E hK hE => ?_ | (refine za fun κ η => ?_; simp only [go_sem, simprocAttr]; refine η _ ?_; clear η κ) | (refine zd (hK _ ?_); clear hE hK E K) | apply zb
  refine zaI fun κ η => ?_; simp only [go_sem, simprocAttr]; refine ⟨_, (hri _), ?_⟩; rintro _ _ ⟨rfl, rfl⟩; simp only [go_sem, simprocAttr]; refine η _ ?_; clear η κ
  repeat' first | apply zg | apply zj | refine zf rfl fun K E hK hE => ?_ | (refine za fun κ η => ?_; simp only [go_sem, simprocAttr, hz0]; (repeat refine ⟨by omega, ?_⟩); refine η _ ?_; clear η κ) | (refine zd (hK _ ?_); clear hE hK E K) | apply zb | refine zh false rfl (fun h => (by cases h)) fun _ => ?_ | apply zi
  refine zW (fun m s' => ∃ n : Nat, m = gts.length - n ∧ n ≤ gts.length ∧ ∃ F G0 yy, s' = nf 77 F G0 [(1, .ptr 1 1 0), (4, yy), (5, .nilS), (6, .row 16 1), (7, .t (.i .i64 n))] [] ∧ G0 1 = ⟨1, .cells 26 [.t (.sl (sR ins)), .t (.sl (sR outs)), .t (.sl (lsR las)), .t (.sl (gsR gts))]⟩ ∧ G0 16 = ⟨1, .row 4 1 (bR gts.length (zah gts n zaq).2)⟩ ∧ Acc G0 53 3 1 (iR (zaf (zah gts n zaq).1)) yy) gts.length ?_ ?_
  ·exact ⟨0, by omega, by omega, _, _, _, zp rfl ⟨rfl, rfl, rfl, rfl, rfl, trivial⟩ trivial, rfl, rfl, .inl ⟨rfl, rfl⟩⟩
  rintro m s' ⟨n, rfl, hnn, F, G0, yy, rfl, b1, b16, hy⟩
  have hsc := zgd gts n zaq
  by_cases hd : n < gts.length
  ·have hd' : ((n : Int) < gts.length) = True := eq_true (by omega)
   have hll := (zd9 gts n zaq).1
   generalize hst : zah gts n zaq = st at *
   obtain ⟨l, th⟩ := st
   simp only at hsc hll b16 hy
   repeat' first | apply zg | apply zj | refine zf rfl fun K E hK hE => ?_ | (refine za fun κ η => ?_; simp only [go_sem, simprocAttr, b1, hd']; (repeat refine ⟨by omega, ?_⟩); refine η _ ?_; clear η κ) | (refine zd (hK _ ?_); clear hE hK E K) | apply zb | refine zh true rfl (fun _ => ?_) (fun h => (by cases h)) | apply zi
   refine zW (fun m s' => ∃ k : Nat, m = gts.length - k ∧ k ≤ gts.length ∧ (∀ j, j < k → zbn gts th j = false) ∧ ∃ F G0, s' = nf 77 F G0 [(1, .ptr 1 1 0), (4, yy), (5, .nilS), (6, .row 16 1), (7, .t (.i .i64 n)), (8, .t (.i .i64 k))] [] ∧ G0 1 = ⟨1, .cells 26 [.t (.sl (sR ins)), .t (.sl (sR outs)), .t (.sl (lsR las)), .t (.sl (gsR gts))]⟩ ∧ G0 16 = ⟨1, .row 4 1 (bR gts.length th)⟩ ∧ Acc G0 53 3 1 (iR (zaf l)) yy) gts.length ?_ ?_
   ·exact ⟨0, by omega, by omega, fun j hj => absurd hj (Nat.not_lt_zero j), _, _, zp rfl ⟨rfl, rfl, rfl, rfl, rfl, rfl, trivial⟩ trivial, b1, b16, hy⟩
   clear b1 b16 hy
   rintro m s' ⟨k, rfl, hk, hno, F, G0, rfl, b1, b16, hy⟩
   by_cases he : k < gts.length
   ·have he' : ((k : Int) < gts.length) = True := eq_true (by omega)
    have hgk := zaQ (zbU he)
    have hbk := zdw (th := th) he
    have hw := hwt (gat gts k) th (by have := hi8 _ (zcd he); omega)
    cases ht : th k with
    | true =>
     rw [ht] at hbk
     repeat' first | apply zg | apply zj | refine zf rfl fun K E hK hE => ?_ | refine zG rfl (by kernel_rfl) fun K E hK hE => ?_ | ((first | refine za fun κ η => ?_ | refine zr (by kernel_rfl) fun κ η => ?_ | refine zK (by kernel_rfl) rfl fun κ η => ?_); simp only [go_sem, simprocAttr, b1, b16, he', hgk, hbk]; (repeat refine ⟨by omega, ?_⟩); refine η _ ?_; clear η κ) | (refine zd (hK _ ?_); clear hE hK E K) | apply zb | refine zh true rfl (fun _ => ?_) (fun h => (by cases h)) | refine zh false rfl (fun h => (by cases h)) fun _ => ?_ | (refine zH (hK _ ?_); clear hE hK E K) | apply zq | apply zi | apply zs
     exact ⟨gts.length - (k + 1), by omega, k + 1, rfl, by omega, fun j hj => (Nat.lt_or_eq_of_le (Nat.lt_succ_iff.1 hj)).elim (fun h => hno j h) (fun h => by rw [h]; unfold zbn; rw [ht]; rfl), _, _, zp rfl ⟨rfl, rfl, rfl, rfl, rfl, rfl, trivial⟩ trivial, b1, b16, hy⟩
    | false =>
     rw [ht] at hbk
     cases hwv : (gat gts k).ins.any (zaO gts th) with
     | true =>
      rw [hwv] at hw
      repeat' first | apply zg | apply zj | refine zf rfl fun K E hK hE => ?_ | refine zG rfl (by kernel_rfl) fun K E hK hE => ?_ | ((first | refine za fun κ η => ?_ | refine zr (by kernel_rfl) fun κ η => ?_ | refine zK (by kernel_rfl) rfl fun κ η => ?_); simp only [go_sem, simprocAttr, b1, b16, he', hgk, hbk]; (repeat refine ⟨by omega, ?_⟩); refine η _ ?_; clear η κ) | (refine zd (hK _ ?_); clear hE hK E K) | apply zb | refine zh true rfl (fun _ => ?_) (fun h => (by cases h)) | apply zi
      refine zK (by kernel_rfl) rfl fun κ η => ?_; simp only [go_sem, simprocAttr, b16]; refine ⟨_, hw, ?_⟩; simp only [go_sem, simprocAttr, b16]; refine η _ ?_; clear η κ
      repeat' first | refine zf rfl fun K E hK hE => ?_ | ((first | refine za fun κ η => ?_ | refine zr (by kernel_rfl) fun κ η => ?_ | refine zK (by kernel_rfl) rfl fun κ η => ?_); simp only [go_sem, simprocAttr]; (repeat refine ⟨by omega, ?_⟩); refine η _ ?_; clear η κ) | (refine zd (hK _ ?_); clear hE hK E K) | apply zb | refine zh false rfl (fun h => (by cases h)) fun _ => ?_ | (refine zH (hK _ ?_); clear hE hK E K) | apply zq | apply zi | apply zs
      exact ⟨gts.length - (k + 1), by omega, k + 1, rfl, by omega, fun j hj => (Nat.lt_or_eq_of_le (Nat.lt_succ_iff.1 hj)).elim (fun h => hno j h) (fun h => by rw [h]; unfold zbn zcX; rw [ht, hwv]; rfl), _, _, zp rfl ⟨rfl, rfl, rfl, rfl, rfl, rfl, trivial⟩ trivial, b1, b16, hy⟩
     | false =>
      rw [hwv] at hw
      have hset := zf8 (N := gts.length) (th := th) k
      have hff : zaF gts th = some k := zjb he hno (by unfold zbn zcX; rw [ht, hwv]; rfl)
      rw [hff] at hsc
      have hsc : zah gts (n + 1) zaq = (l ++ [k], updB th k) := hsc
      have hsl := zjd l k
      have hlen : (iR (zaf l)).length ≤ 1000000 := by
       rw [ze5, zd0]
       omega
      rcases hy with ⟨y0, rfl⟩ | ⟨q', rfl, hr2⟩
      ·rw [y0] at hsl
       repeat' first | apply zg | apply zj | refine zf rfl fun K E hK hE => ?_ | refine zG rfl (by kernel_rfl) fun K E hK hE => ?_ | ((first | refine za fun κ η => ?_ | refine zr (by kernel_rfl) fun κ η => ?_ | refine zK (by kernel_rfl) rfl fun κ η => ?_); simp only [go_sem, simprocAttr, b1, b16, he', hgk, hbk]; (repeat refine ⟨by omega, ?_⟩); refine η _ ?_; clear η κ) | (refine zd (hK _ ?_); clear hE hK E K) | apply zb | refine zh true rfl (fun _ => ?_) (fun h => (by cases h)) | apply zi
       refine zK (by kernel_rfl) rfl fun κ η => ?_; simp only [go_sem, simprocAttr, b16]; refine ⟨_, hw, ?_⟩; simp only [go_sem, simprocAttr, b16]; refine η _ ?_; clear η κ
       repeat' first | apply zg | refine zf rfl fun K E hK hE => ?_ | ((first | refine za fun κ η => ?_ | refine zr (by kernel_rfl) fun κ η => ?_ | refine zK (by kernel_rfl) rfl fun κ η => ?_); simp only [go_sem, simprocAttr, b16, hbk, hset]; (repeat refine ⟨by omega, ?_⟩); refine η _ ?_; clear η κ) | (refine zd (hK _ ?_); clear hE hK E K) | apply zb | refine zh true rfl (fun _ => ?_) (fun h => (by cases h)) | (refine zH (hK _ ?_); clear hE hK E K) | apply zq | apply zt | apply zu | apply zw | refine zR rfl ?_ | apply zx | apply zs
       exact ⟨gts.length - (n + 1), by omega, n + 1, rfl, by omega, _, _, _, zp rfl ⟨rfl, rfl, rfl, rfl, rfl, trivial⟩ trivial, b1, by rw [hsc]; rfl, .inr ⟨_, rfl, by rw [hsc, hsl]; rfl⟩⟩
      ·generalize iR (zaf l) = rw0 at hr2 hsl hlen
       repeat' first | apply zg | apply zj | refine zf rfl fun K E hK hE => ?_ | refine zG rfl (by kernel_rfl) fun K E hK hE => ?_ | ((first | refine za fun κ η => ?_ | refine zr (by kernel_rfl) fun κ η => ?_ | refine zK (by kernel_rfl) rfl fun κ η => ?_); simp only [go_sem, simprocAttr, b1, b16, he', hgk, hbk]; (repeat refine ⟨by omega, ?_⟩); refine η _ ?_; clear η κ) | (refine zd (hK _ ?_); clear hE hK E K) | apply zb | refine zh true rfl (fun _ => ?_) (fun h => (by cases h)) | apply zi
       refine zK (by kernel_rfl) rfl fun κ η => ?_; simp only [go_sem, simprocAttr, b16]; refine ⟨_, hw, ?_⟩; simp only [go_sem, simprocAttr, b16]; refine η _ ?_; clear η κ
       repeat' first | apply zg | refine zf rfl fun K E hK hE => ?_ | ((first | refine za fun κ η => ?_ | refine zr (by kernel_rfl) fun κ η => ?_ | refine zK (by kernel_rfl) rfl fun κ η => ?_); simp only [go_sem, simprocAttr, b16, hbk, hset, hr2]; (repeat refine ⟨by omega, ?_⟩); refine η _ ?_; clear η κ) | (refine zd (hK _ ?_); clear hE hK E K) | apply zb | refine zh true rfl (fun _ => ?_) (fun h => (by cases h)) | (refine zH (hK _ ?_); clear hE hK E K) | apply zq | apply zt | apply zu | apply zw | refine zR rfl ?_ | apply zx | apply zs
       exact ⟨gts.length - (n + 1), by omega, n + 1, rfl, by omega, _, _, _, zp rfl ⟨rfl, rfl, rfl, rfl, rfl, trivial⟩ trivial, b1, by rw [hsc]; rfl, .inr ⟨_, rfl, by rw [hsc, hsl]; rfl⟩⟩
   ·have he' : ((k : Int) < gts.length) = False := eq_false (by omega)
    rw [zjc fun j hj => hno j (by omega)] at hsc
    have hsc : zah gts (n + 1) zaq = (l, th) := hsc
    repeat' first | apply zg | refine zf rfl fun K E hK hE => ?_ | (refine za fun κ η => ?_; simp only [go_sem, simprocAttr, b1, he']; (repeat refine ⟨by omega, ?_⟩); refine η _ ?_; clear η κ) | (refine zd (hK _ ?_); clear hE hK E K) | apply zb | refine zh false rfl (fun h => (by cases h)) fun _ => ?_ | apply zq | apply zt | apply zu | apply zw | apply zx | apply zs
    exact ⟨gts.length - (n + 1), by omega, n + 1, rfl, by omega, _, _, yy, zp rfl ⟨rfl, rfl, rfl, rfl, rfl, trivial⟩ trivial, b1, by rw [hsc]; exact b16, by rw [hsc]; exact hy⟩
  ·have hd' : ((n : Int) < gts.length) = False := eq_false (by omega)
   obtain ⟨n, hne, rfl⟩ : ∃ n', n' = gts.length ∧ n' = n := ⟨_, rfl, by omega⟩
   subst hne
   have hth : (zah gts gts.length zaq).2 = zal (zZ gts).1 := funext fun k => zeU gts k
   rw [hth] at b16
   replace hy : Acc G0 53 3 1 (iR (zaf (zZ gts).1)) yy := hy
   clear hsc hth
   generalize hso : (zZ gts).1 = so at *
   repeat' first | apply zg | apply zj | refine zf rfl fun K E hK hE => ?_ | (refine za fun κ η => ?_; simp only [go_sem, simprocAttr, b1, hd']; (repeat refine ⟨by omega, ?_⟩); refine η _ ?_; clear η κ) | (refine zd (hK _ ?_); clear hE hK E K) | apply zb | refine zh false rfl (fun h => (by cases h)) fun _ => ?_ | apply zt | apply zu | apply zw | apply zx
   refine zW (fun m s' => ∃ k : Nat, m = gts.length - k ∧ k ≤ gts.length ∧ ∃ F G0 zz, s' = nf 77 F G0 [(1, .ptr 1 1 0), (4, yy), (5, zz), (6, .row 16 1), (9, .t (.i .i64 k))] [] ∧ G0 1 = ⟨1, .cells 26 [.t (.sl (sR ins)), .t (.sl (sR outs)), .t (.sl (lsR las)), .t (.sl (gsR gts))]⟩ ∧ Acc G0 53 3 1 (iR (zaf so)) yy ∧ G0 16 = ⟨1, .row 4 1 (bR gts.length (zal so))⟩ ∧ Acc G0 74 9 1 (sR (za6 gts k)) zz) gts.length ?_ ?_
   ·exact ⟨0, by omega, by omega, _, _, _, zp rfl ⟨rfl, rfl, rfl, rfl, rfl, trivial⟩ trivial, b1, hy, b16, .inl ⟨rfl, rfl⟩⟩
   clear b1 hy b16 hd hd'
   rintro m s' ⟨k, rfl, hk, F, G0, zz, rfl, b1, hy, b16, hzz⟩
   by_cases hd : k < gts.length
   ·have hd' : ((k : Int) < gts.length) = True := eq_true (by omega)
    have hx' := zaQ (zbU hd)
    have hbg := zdw (th := zal so) hd
    have hnx := zgb gts k
    rw [hso] at hnx
    cases hb : zal so k with
    | true =>
     rw [hb] at hbg
     rw [if_pos hb, List.append_nil] at hnx
     repeat' first | apply zg | apply zj | refine zf rfl fun K E hK hE => ?_ | (refine za fun κ η => ?_; simp only [go_sem, simprocAttr, b1, hd', hx', b16, hbg]; (repeat refine ⟨by omega, ?_⟩); refine η _ ?_; clear η κ) | (refine zd (hK _ ?_); clear hE hK E K) | apply zb | refine zh true rfl (fun _ => ?_) (fun h => (by cases h)) | refine zh false rfl (fun h => (by cases h)) fun _ => ?_ | apply zq | apply zi | apply zs
     exact ⟨gts.length - (k + 1), by omega, k + 1, rfl, by omega, _, _, zz, zp rfl ⟨rfl, rfl, rfl, rfl, rfl, trivial⟩ trivial, b1, hy, b16, by rw [hnx]; exact hzz⟩
    | false =>
     rw [hb] at hbg
     rw [if_neg (by rw [hb]; decide)] at hnx
     have hs2 : sR (za6 gts (k + 1)) = sR (za6 gts k) ++ [[.s (gat gts k).name]] := by rw [hnx, zbC]; rfl
     have hlen : (sR (za6 gts k)).length ≤ 1000000 := by
      have := zd8 gts k
      rw [zdu]
      omega
     rcases hzz with ⟨h0, rfl⟩ | ⟨q, rfl, hr2⟩
     ·rw [h0] at hs2
      repeat' first | apply zg | apply zj | refine zf rfl fun K E hK hE => ?_ | (refine za fun κ η => ?_; simp only [go_sem, simprocAttr, b1, hd', hx', b16, hbg]; (repeat refine ⟨by omega, ?_⟩); refine η _ ?_; clear η κ) | (refine zd (hK _ ?_); clear hE hK E K) | apply zb | refine zh true rfl (fun _ => ?_) (fun h => (by cases h)) | apply zq | apply zi | apply zs
      exact ⟨gts.length - (k + 1), by omega, k + 1, rfl, by omega, _, _, _, zp rfl ⟨rfl, rfl, rfl, rfl, rfl, trivial⟩ trivial, b1, hy, b16, .inr ⟨_, rfl, by rw [hs2]; rfl⟩⟩
     ·generalize sR (za6 gts k) = rw0 at hr2 hs2 hlen
      repeat' first | apply zg | apply zj | refine zf rfl fun K E hK hE => ?_ | (refine za fun κ η => ?_; simp only [go_sem, simprocAttr, b1, hd', hx', b16, hbg, hr2]; (repeat refine ⟨by omega, ?_⟩); refine η _ ?_; clear η κ) | (refine zd (hK _ ?_); clear hE hK E K) | apply zb | refine zh true rfl (fun _ => ?_) (fun h => (by cases h)) | apply zq | apply zi | apply zs
      exact ⟨gts.length - (k + 1), by omega, k + 1, rfl, by omega, _, _, _, zp rfl ⟨rfl, rfl, rfl, rfl, rfl, trivial⟩ trivial, b1, hy, b16, .inr ⟨_, rfl, by rw [hs2]; rfl⟩⟩
   ·have hd' : ((k : Int) < gts.length) = False := eq_false (by omega)
    obtain ⟨k, hke, rfl⟩ : ∃ n', n' = gts.length ∧ n' = k := ⟨_, rfl, by omega⟩
    subst hke
    rw [zdx] at hzz
    rcases hy with ⟨x0, rfl⟩ | ⟨q, rfl, hr2⟩ <;> rcases hzz with ⟨y0, rfl⟩ | ⟨q', rfl, hr3⟩
    ·rw [x0, y0]
     repeat' first | apply zg | refine zf rfl fun K E hK hE => ?_ | (refine za fun κ η => ?_; simp only [go_sem, simprocAttr, b1, hd']; (repeat refine ⟨by omega, ?_⟩); refine η _ ?_; clear η κ) | (refine zd (hK _ ?_); clear hE hK E K) | apply zb | refine zh false rfl (fun h => (by cases h)) fun _ => ?_ | apply zt | apply zk | apply zu | apply zw | apply zx | (apply zm; apply zn; simp only [go_sem, simprocAttr, b1, hd'])
    ·rw [x0]
     repeat' first | apply zg | refine zf rfl fun K E hK hE => ?_ | (refine za fun κ η => ?_; simp only [go_sem, simprocAttr, b1, hd', hr3]; (repeat refine ⟨by omega, ?_⟩); refine η _ ?_; clear η κ) | (refine zd (hK _ ?_); clear hE hK E K) | apply zb | refine zh false rfl (fun h => (by cases h)) fun _ => ?_ | apply zt | apply zk | apply zu | apply zw | apply zx | (apply zm; apply zn; simp only [go_sem, simprocAttr, b1, hd', hr3])
    ·rw [y0]
     repeat' first | apply zg | refine zf rfl fun K E hK hE => ?_ | (refine za fun κ η => ?_; simp only [go_sem, simprocAttr, b1, hd', hr2]; (repeat refine ⟨by omega, ?_⟩); refine η _ ?_; clear η κ) | (refine zd (hK _ ?_); clear hE hK E K) | apply zb | refine zh false rfl (fun h => (by cases h)) fun _ => ?_ | apply zt | apply zk | apply zu | apply zw | apply zx | (apply zm; apply zn; simp only [go_sem, simprocAttr, b1, hd', hr2])
    ·repeat' first | apply zg | refine zf rfl fun K E hK hE => ?_ | (refine za fun κ η => ?_; simp only [go_sem, simprocAttr, b1, hd', hr2, hr3]; (repeat refine ⟨by omega, ?_⟩); refine η _ ?_; clear η κ) | (refine zd (hK _ ?_); clear hE hK E K) | apply zb | refine zh false rfl (fun h => (by cases h)) fun _ => ?_ | apply zt | apply zk | apply zu | apply zw | apply zx | (apply zm; apply zn; simp only [go_sem, simprocAttr, b1, hd', hr2, hr3])
 ·have hs : zbD c = ([], []) := if_neg h0
  rw [hs]
  rw [decide_eq_false h0] at hri
  obtain ⟨ins, outs, las, gts⟩ := c
  simp only [cE] at hri ⊢
  refine zI (cls := _root_.id) zB zD Tryz.func29 rfl (by decide) (Nat.le_of_ble_eq_true rfl) ?_
  rw [show Tryz.f29.ntmps = 77 from rfl, zC]
  simp only [List.zipIdx_cons, List.zipIdx_nil, List.map_cons, List.map_nil, Nat.reduceAdd, cE]
  repeat' first | apply zg | refine zf rfl fun K E hK hE => ?_ | (refine za fun κ η => ?_; simp only [go_sem, simprocAttr]; refine η _ ?_; clear η κ) | (refine zd (hK _ ?_); clear hE hK E K) | apply zb
  refine zaI fun κ η => ?_; simp only [go_sem, simprocAttr]; refine ⟨_, (hri _), ?_⟩; rintro _ _ ⟨rfl, rfl⟩; simp only [go_sem, simprocAttr]; refine η _ ?_; clear η κ
  repeat' first | apply zg | refine zf rfl fun K E hK hE => ?_ | (refine za fun κ η => ?_; simp only [go_sem, simprocAttr]; refine η _ ?_; clear η κ) | (refine zd (hK _ ?_); clear hE hK E K) | apply zb | refine zh true rfl (fun _ => ?_) (fun h => (by cases h)) | apply zk | apply zy | (apply zm; apply zn; simp only [go_sem, simprocAttr])
  rfl
end Go.Proofs.YtbhoeanfnbkenaaGreatDoor
