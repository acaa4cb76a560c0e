import Derived.Test.YtbhoeanfnbkenaaGreatDoorY7
import Derived.Test.YtbhoeanfnbkenaaGreatDoorY9
import Derived.Test.YtbhoeanfnbkenaaGreatDoorR40p
import Derived.Test.YtbhoeanfnbkenaaGreatDoorR8
namespace Go.Proofs.YtbhoeanfnbkenaaGreatDoor
open Go.RowKit
set_option maxRecDepth 100000
set_option linter.unusedSimpArgs false
structure SatV (c : Ci) (st ii : List Bool) (f : ByteArray → Bool) : Prop where
 ins : ∀ (i : Nat) s, c.ins[i]? = some s → f s = ii.getD i false
 las : ∀ (i : Nat) x, c.las[i]? = some x → f x.name = st.getD i false
 gts : ∀ g ∈ c.gts, f g.name = zbp g (g.ins.map f)
end Go.Proofs.YtbhoeanfnbkenaaGreatDoor
namespace Go.Proofs.YtbhoeanfnbkenaaGreatDoor
open Go.RowKit Go.WideMaps
set_option maxRecDepth 100000
set_option linter.unusedSimpArgs false
variable (Hy : World → Prop)
attribute [local irreducible] zU zY cwp z1 z6 lpQ z8 asQ bdQ bdY zab zac zad zaa
set_option maxHeartbeats 2000000 in
theorem zf7 (c : Ci) (s : ByteArray) (hc : CFit c) : Ct Tryz.prog Hy 30 [.ag (cE c), .s s] [.i .i64 (plC c s)] := by
 have h1 := zge Hy c hc
 have hl : (z2 c).length ≤ 10000000 := by rw [zb6]; have := hc.ins; have := hc.las; have := hc.gts; omega
 obtain ⟨R, hR⟩ : ∃ R, R = plC c s := ⟨_, rfl⟩
 rw [← hR]
 unfold plC at hR
 generalize z2 c = l at *
 obtain ⟨ins, outs, las, gts⟩ := c
 simp only [cE] at h1 ⊢
 refine zI (cls := _root_.id) zB zD Tryz.func30 rfl (by decide) (Nat.le_of_ble_eq_true rfl) ?_
 rw [show Tryz.f30.ntmps = 22 from rfl, zC]
 simp only [List.zipIdx_cons, List.zipIdx_nil, List.map_cons, List.map_nil, Nat.reduceAdd]
 repeat' first | apply zg | refine zf rfl fun K E hK hE => ?_ | (refine za fun κ η => ?_; simp only [go_sem, simprocAttr]; refine η _ ?_; clear η κ) | (refine zd (hK _ ?_); clear hE hK E K) | apply zb
 refine za fun κ η => ?_; simp only [go_sem, simprocAttr]; refine ⟨_, h1, ?_⟩; simp only [go_sem, simprocAttr]; refine η _ ?_; clear η κ
 repeat' first | apply zg | apply zj | refine zf rfl fun K E hK hE => ?_ | (refine za fun κ η => ?_; simp only [go_sem, simprocAttr]; refine η _ ?_; clear η κ) | (refine zd (hK _ ?_); clear hE hK E K) | apply zb
 refine zW (fun m s' => ∃ k : Nat, m = l.length - k ∧ k ≤ l.length ∧ (∀ (j : Nat) y, j < k → l[j]? = some y → decide (y = s) = false) ∧ ∃ F G0, s' = nf 22 F G0 [(1, .t (.s s)), (5, .t (.sl (sR l))), (6, .t (.i .i64 k))] []) l.length ?_ ?_
 ·exact ⟨0, by omega, by omega, fun j _ hj => absurd hj (Nat.not_lt_zero j), _, _, zp rfl ⟨rfl, rfl, rfl, trivial⟩ trivial⟩
 rintro m s' ⟨k, rfl, hk, hno, F, G0, rfl⟩
 by_cases hd : k < l.length
 ·have hd' : ((k : Int) < l.length) = True := eq_true (by omega)
  obtain ⟨x, hx⟩ : ∃ x, l[k]? = some x := ⟨_, List.getElem?_eq_getElem (by omega)⟩
  have hx' := za5 hx
  by_cases he : x = s
  ·have he' := eq_true he
   obtain rfl : R = k := by rw [hR, zeq hx (decide_eq_true he) hno]
   repeat' first | apply zg | apply zj | refine zf rfl fun K E hK hE => ?_ | (refine za fun κ η => ?_; simp only [go_sem, simprocAttr, hd', hx', he', decide_true]; (repeat refine ⟨by omega, ?_⟩); refine η _ ?_; clear η κ) | (refine zd (hK _ ?_); clear hE hK E K) | apply zb | refine zh true rfl (fun _ => ?_) (fun h => (by cases h)) | apply zi | apply zk | apply zy | apply zJ | apply zL | (apply zm; apply zn; simp only [go_sem, simprocAttr, hd', hx', he', decide_true])
  ·have he' := eq_false he
   repeat' first | apply zg | apply zj | refine zf rfl fun K E hK hE => ?_ | (refine za fun κ η => ?_; simp only [go_sem, simprocAttr, hd', hx', he', decide_false]; (repeat refine ⟨by omega, ?_⟩); refine η _ ?_; clear η κ) | (refine zd (hK _ ?_); clear hE hK E K) | apply zb | refine zh true rfl (fun _ => ?_) (fun h => (by cases h)) | refine zh false rfl (fun h => (by cases h)) fun _ => ?_ | apply zq | apply zi | apply zs
   refine ⟨l.length - (k + 1), by omega, k + 1, rfl, by omega, fun j y hj hy => ?_, _, _, zp rfl ⟨rfl, rfl, rfl, trivial⟩ trivial⟩
   rcases Nat.lt_or_eq_of_le (Nat.lt_succ_iff.1 hj) with h | rfl
   ·exact hno j y h hy
   ·rw [hx] at hy
    cases hy
    exact decide_eq_false he
 ·have hd' : ((k : Int) < l.length) = False := eq_false (by omega)
  obtain rfl : R = -1 := by rw [hR, zfx fun j y hj hy => hno j y (by omega) hy]
  repeat' first | apply zg | refine zf rfl fun K E hK hE => ?_ | (refine za fun κ η => ?_; simp only [go_sem, simprocAttr, hd']; refine η _ ?_; clear η κ) | (refine zd (hK _ ?_); clear hE hK E K) | apply zb | refine zh false rfl (fun h => (by cases h)) fun _ => ?_ | apply zt | apply zk | apply zu | apply zw | apply zx | (apply zm; apply zn; simp only [go_sem, simprocAttr, hd'])
end Go.Proofs.YtbhoeanfnbkenaaGreatDoor
