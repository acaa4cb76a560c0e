import Derived.Test.YtbhoeanfnbkenaaGreatDoorY2
namespace Go.Proofs.YtbhoeanfnbkenaaGreatDoor
open Go.RowKit Go.WideMaps
set_option maxRecDepth 100000
set_option linter.unusedSimpArgs false
variable (Hy : World → Prop)
attribute [local irreducible] zU zY cwp z1 z6 lpQ z8 asQ bdQ bdY zab zac zad zaa
def NtM (E : List (Ky × A)) (l : List ByteArray) (k : Nat) : Prop := ∀ (i : Nat) s, i < k → l[i]? = some s → zam E (.s s) = some (.t (.i .i64 i))
theorem NtM.put {E : List (Ky × A)} {l : List ByteArray} {k : Nat} {s : ByteArray} (h : NtM E l k) (hn : l.Nodup) (hs : l[k]? = some s) : NtM (zaE E (.s s) (.t (.i .i64 k))) l (k + 1) := fun i t hi ht => by
 rw [zcC]
 by_cases e : i = k
 ·subst e
  rw [hs] at ht
  cases ht
  rw [if_pos rfl]
 ·rw [if_neg (fun e2 => e ((List.getElem?_inj (List.getElem?_eq_some_iff.1 ht).1 hn).1 (by rw [ht, hs]; injection e2 with e2; rw [e2]))), h i t (by omega) ht]
def mA (c : Ci) (g : Nat) : List A := [.t (.sl (sR c.ins)), .t (.sl (sR c.outs)), .t (.sl (lsR c.las)), .t (.sl (gsR c.gts)), .row 6307 g, .t (.sl (iR (zaf (zZ c.gts).1)))]
def Mch (c : Ci) (g : Nat) (o : Nat → O) : Prop := ∃ E, o 6307 = ⟨g, .map .str E⟩ ∧ NtM E (z2 c) (z2 c).length
set_option maxHeartbeats 4000000 in
theorem zfK (c : Ci) (hm : MayC c) (hr : CRoom c) (hgo : GOk c.gts) (hlo : LOk c.las) (o : Nat → O) : Cm Tryz.prog Hy 27 [.ag (cA c)] o fun rs o' => ∃ g, rs = [.ag (mA c g)] ∧ Mch c g o' ∧ FrI 6300 6400 o o' := by
 have hM := zdT
 have hks : zaS tt 9 = .str := rfl
 have hne := zeT Hy c (zjj ((zct c).2 hm)).fit
 have hst := zgc Hy c hr hgo hlo
 rw [show zbD c = ((zZ c.gts).1, za0 c.gts) from if_pos ((zct c).2 hm)] at hst
 have hsz := zeW ((zct c).2 hm)
 have hnd := hm.nts
 have hnl := zb6 c
 obtain ⟨⟨h1, _⟩, _⟩ := zcS hm
 unfold Mch mA
 generalize zaf (zZ c.gts).1 = L at *
 generalize za0 c.gts = NV at *
 generalize z2 c = N at *
 obtain ⟨ins, outs, las, gts⟩ := c
 simp only [cE, cA] at hne hst hnl h1 ⊢
 refine zax (cls := fun d => 6300 + d) zB zD Tryz.func27 rfl (by decide) (Nat.le_of_ble_eq_true rfl) ?_
 rw [show Tryz.f27.ntmps = 29 from rfl, zC]
 simp only [List.zipIdx_cons, List.zipIdx_nil, List.map_cons, List.map_nil, Nat.reduceAdd]
 repeat' first | apply zg | refine zf rfl fun K E hK hE => ?_ | (refine za fun κ η => ?_; simp only [go_sem, simprocAttr, hks]; (repeat refine ⟨by omega, ?_⟩); refine η _ ?_; clear η κ) | (refine zd (hK _ ?_); clear hE hK E K) | apply zb
 refine za fun κ η => ?_; simp only [go_sem, simprocAttr]; refine ⟨_, hne, ?_⟩; simp only [go_sem, simprocAttr]; refine η _ ?_; clear η κ
 repeat' first | apply zj | (refine za fun κ η => ?_; simp only [go_sem, simprocAttr]; refine η _ ?_; clear η κ) | (refine zd (hK _ ?_); clear hE hK E K) | apply zb
 refine zW (fun m s' => ∃ k : Nat, m = N.length - k ∧ k ≤ N.length ∧ ∃ F G0 E, s' = nf 29 F G0 [(1, .ptr 6301 ((o 6301).gen + 1) 0), (2, .ptr 6302 ((o 6302).gen + 1) 0), (3, .ptr 6303 ((o 6303).gen + 1) 0), (10, .t (.sl (sR N))), (11, .t (.i .i64 N.length)), (12, .t (.i .i64 k))] [] ∧ G0 6307 = ⟨(o 6307).gen + 1, .map .str E⟩ ∧ NtM E N k ∧ G0 6301 = ⟨(o 6301).gen + 1, .cells 26 [.t (.sl (sR ins)), .t (.sl (sR outs)), .t (.sl (lsR las)), .t (.sl (gsR gts))]⟩ ∧ G0 6302 = ⟨(o 6302).gen + 1, .cells 58 [.nilS, .nilS, .nilS, .nilS, .t .nmp, .nilS]⟩ ∧ G0 6303 = ⟨(o 6303).gen + 1, .cells 58 [.t (.sl (sR ins)), .t (.sl (sR outs)), .t (.sl (lsR las)), .t (.sl (gsR gts)), .row 6307 ((o 6307).gen + 1), .nilS]⟩ ∧ FrI 6300 6400 o G0) N.length ?_ ?_
 ·exact ⟨0, by omega, by omega, _, _, _, zp rfl ⟨rfl, rfl, rfl, rfl, rfl, rfl, trivial⟩ trivial, rfl, fun i s hi => absurd hi (Nat.not_lt_zero i), rfl, rfl, rfl, zde rfl⟩
 rintro m s' ⟨k, rfl, hk, F, G0, E, rfl, g7, hE, g1, g2, g3, hfr⟩
 by_cases hd : k < N.length
 ·have hd' : ((k : Int) < N.length) = True := eq_true (by omega)
  obtain ⟨s, hs⟩ : ∃ s, N[k]? = some s := ⟨_, List.getElem?_eq_getElem hd⟩
  have hs' := za5 hs
  have hz := hsz s (List.mem_of_getElem? hs)
  have hE2 := hE.put hnd hs
  generalize hpu : zaE E (.s s) (.t (.i .i64 k)) = E2 at hE2
  repeat' first | apply zg | apply zj | refine zf rfl fun K E hK hE => ?_ | (refine za fun κ η => ?_; simp only [go_sem, simprocAttr, hd', hs', g3, g7, hks, Ky.ok, hpu]; (repeat refine ⟨by omega, ?_⟩); refine η _ ?_; clear η κ) | (refine zd (hK _ ?_); clear hE hK E K) | apply zb | refine zh true rfl (fun _ => ?_) (fun h => (by cases h)) | apply zq | apply zi | apply zs
  exact ⟨N.length - (k + 1), by omega, k + 1, rfl, by omega, _, _, E2, zp rfl ⟨rfl, rfl, rfl, rfl, rfl, rfl, trivial⟩ trivial, rfl, hE2, g1, g2, g3, hfr.trans (zde rfl)⟩
 have hd' : ((k : Int) < N.length) = False := eq_false (by omega)
 obtain rfl : k = N.length := by omega
 repeat' first | apply zg | refine zf rfl fun K E hK hE => ?_ | (refine za fun κ η => ?_; simp only [go_sem, simprocAttr, hd', g1]; refine η _ ?_; clear η κ) | (refine zd (hK _ ?_); clear hE hK E K) | apply zb | refine zh false rfl (fun h => (by cases h)) fun _ => ?_ | apply zt | apply zu | apply zw | apply zx
 refine za fun κ η => ?_; simp only [go_sem, simprocAttr]; refine ⟨_, hst, ?_⟩; simp only [go_sem, simprocAttr]; refine η _ ?_; clear η κ
 repeat' first | apply zg | refine zf rfl fun K E hK hE => ?_ | (refine za fun κ η => ?_; simp only [go_sem, simprocAttr, g2, g3]; (repeat refine ⟨by omega, ?_⟩); refine η _ ?_; clear η κ) | (refine zd (hK _ ?_); clear hE hK E K) | apply zb | apply zk | (apply zm; apply zS; simp only [go_sem, simprocAttr, g2, g3])
 exact ⟨_, rfl, ⟨_, g7, hE⟩, hfr.trans (zde rfl)⟩
end Go.Proofs.YtbhoeanfnbkenaaGreatDoor
