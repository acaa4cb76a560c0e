import Derived.Test.YtbhoeanfnbkenaaGreatDoorR10
import Derived.Test.YtbhoeanfnbkenaaGreatDoorR12
import Derived.Test.YtbhoeanfnbkenaaGreatDoorR2
namespace Go.Proofs.YtbhoeanfnbkenaaGreatDoor
open Go.RowKit Go.WideMaps
set_option maxRecDepth 100000
set_option linter.unusedSimpArgs false
variable (Hy : World → Prop)
attribute [local irreducible] zU zY cwp z1 z6 lpQ z8 asQ bdQ bdY zab zac zad zaa
structure COk (c : Ci) : Prop where
 fit : CFit c
 n200 : c.gts.length ≤ 200
 ins : ∀ g ∈ c.gts, g.ins.length ≤ 8
 nm : ∀ g ∈ c.gts, g.name.size ≤ 1000000
 inm : ∀ g ∈ c.gts, ∀ s ∈ g.ins, s.size ≤ 1000000
 uq : zb2 c.gts
theorem zdT : MLaw Tryz.prog tt 55 9 3 where
 und := Tryz.underlying55
 keyed := Go.Maps.string_keyed Tryz.underlying9
 key := fun ky hk => zfO hk
 zero := ⟨.int .i64 0, fun w => by
  obtain ⟨i, z, i1, _, _, i4, _⟩ := (zB 3 _ rfl).info
  have e : Tryz.prog.info? 3 = some i := i1
  have hz : (Tryz.prog.info? 3).bind (·.zero) = some (.int .i64 0) := by kernel_rfl
  rw [e, Option.bind_some] at hz
  simp [zeroValue, zdt e, hz], fun w D o ι => .t (.i .i64 0)⟩
theorem zhR : MLaw Tryz.prog tt 118 9 56 where
 und := Tryz.underlying118
 keyed := Go.Maps.string_keyed Tryz.underlying9
 key := fun ky hk => zfO hk
 zero := ⟨.slice none 0 0, fun w => by
  obtain ⟨i, z, i1, _, _, i4, _⟩ := (zB 56 _ rfl).info
  have e : Tryz.prog.info? 56 = some i := i1
  have hz : (Tryz.prog.info? 56).bind (·.zero) = some (.slice none 0 0) := by kernel_rfl
  rw [e, Option.bind_some] at hz
  simp [zeroValue, zdt e, hz], fun w D o ι => .nilS⟩
theorem zbU {gs : List Gt} {k : Nat} (h : k < gs.length) : gs[k]? = some (gat gs k) := by
 unfold gat
 rw [List.getD_eq_getElem?_getD, List.getElem?_eq_getElem h]
 rfl
theorem zcd {gs : List Gt} {k : Nat} (h : k < gs.length) : gat gs k ∈ gs := List.mem_of_getElem? (zbU h)
theorem zlj {gs : List Gt} {k : Nat} (h : k < gs.length) : zcA (gs.take (k + 1)) = zcA (gs.take k) ++ [(gat gs k).name] := by
 unfold zcA
 rw [List.take_add_one, zbU h, List.map_append]
 rfl
theorem zlk {gs : List Gt} {s : ByteArray} (h : s ∈ zcA gs) : ∃ i, i < gs.length ∧ (gat gs i).name = s := by
 have := (zch gs zaq s).1 (by rw [zfI, zeJ]; exact h)
 obtain ⟨k, hk, e, _⟩ := this
 exact ⟨k, hk, e⟩
def PlM (E : List (Ky × A)) (gs : List Gt) (k : Nat) : Prop := (∀ s : ByteArray, s ∉ zcA (gs.take k) → zam E (.s s) = none) ∧ ∀ i, i < k → zam E (.s (gat gs i).name) = some (.t (.i .i64 i))
theorem PlM.nil (gs : List Gt) : PlM [] gs 0 := ⟨fun _ _ => rfl, fun i h => absurd h (Nat.not_lt_zero i)⟩
theorem PlM.put {E : List (Ky × A)} {gs : List Gt} {k : Nat} (h : PlM E gs k) (hu : zb2 gs) (hk : k < gs.length) : PlM (zaE E (.s (gat gs k).name) (.t (.i .i64 k))) gs (k + 1) := by
 refine ⟨fun s hs => ?_, fun i hi => ?_⟩
 ·rw [zlj hk, List.mem_append, List.mem_singleton] at hs
  rw [zcC, if_neg (fun e => hs (.inr (by injection e))), h.1 s fun e => hs (.inl e)]
 ·rw [zcC]
  by_cases e : i = k
  ·subst e
   rw [if_pos rfl]
  ·rw [if_neg (fun e2 => e (hu i k (by omega) hk (by injection e2))), h.2 i (by omega)]
def FrI (a b : Nat) (o o' : Nat → O) : Prop := ∀ i, i < a ∨ b ≤ i → o' i = o i
theorem FrI.refl (a b : Nat) (o : Nat → O) : FrI a b o o := fun _ _ => rfl
theorem FrI.trans {a b : Nat} {o o1 o2 : Nat → O} (h : FrI a b o o1) (k : FrI a b o1 o2) : FrI a b o o2 := fun i hi => (k i hi).trans (h i hi)
theorem zde {a b n : Nat} {F : Nat → A} {G : Nat → O} {ts : List (Nat × A)} {os : List (Nat × O)} (h : (os.all fun p => decide (a ≤ p.1) && decide (p.1 < b)) = true) : FrI a b G (nf n F G ts os).o := fun i hi => zaY fun p hp e => by
 obtain ⟨q, hq, rfl⟩ := List.mem_map.1 hp
 have := List.all_eq_true.1 h q hq
 simp only [Bool.and_eq_true, decide_eq_true_eq] at this
 omega
set_option maxHeartbeats 2000000 in
theorem zll (c : Ci) (hc : COk c) (o : Nat → O) : Cm Tryz.prog Hy 105 [.ag (cA c)] o fun rs o' => ∃ q E, rs = [.row 6106 q] ∧ o' 6106 = ⟨q, .map .str E⟩ ∧ PlM E c.gts c.gts.length ∧ FrI 6100 6200 o o' := by
 obtain ⟨ins, outs, las, gts⟩ := c
 obtain ⟨_, h2, _, h4, _, hu⟩ := hc
 simp only at h2 h4 hu
 have hM := zdT
 have hks : zaS tt 9 = .str := rfl
 refine zax (cls := fun d => 6100 + d) zB zD Tryz.func105 rfl (by decide) (Nat.le_of_ble_eq_true rfl) ?_
 rw [show Tryz.f105.ntmps = 21 from rfl, zC]
 simp only [List.zipIdx_cons, List.zipIdx_nil, List.map_cons, List.map_nil, Nat.reduceAdd, cA]
 repeat' first | apply zg | apply zj | refine zf rfl fun K E hK hE => ?_ | (refine za fun κ η => ?_; simp only [go_sem, simprocAttr, hks]; (repeat refine ⟨by omega, ?_⟩); refine η _ ?_; clear η κ) | (refine zd (hK _ ?_); clear hE hK E K) | apply zb
 refine zW (fun m s' => ∃ k : Nat, m = gts.length - k ∧ k ≤ gts.length ∧ ∃ F G0 q E, s' = nf 21 F G0 [(3, .row 6106 q), (8, .t (.sl (gsR gts))), (9, .t (.i .i64 gts.length)), (10, .t (.i .i64 k))] [] ∧ G0 6106 = ⟨q, .map .str E⟩ ∧ PlM E gts k ∧ FrI 6100 6200 o G0) gts.length ?_ ?_
 ·exact ⟨0, by omega, by omega, _, _, _, _, zp rfl ⟨rfl, rfl, rfl, rfl, trivial⟩ trivial, rfl, PlM.nil _, zde rfl⟩
 rintro m s' ⟨k, rfl, hk, F, G0, q, E, rfl, g7, hE, hlo⟩
 repeat' first | apply zg | refine zf rfl fun K E hK hE => ?_ | (refine za fun κ η => ?_; simp only [go_sem, simprocAttr]; refine η _ ?_; clear η κ) | (refine zd (hK _ ?_); clear hE hK E K) | apply zb
 refine zh _ rfl (fun hq => ?_) (fun hq => ?_)
 ·simp only [decide_eq_true_eq] at hq
  have hkl : k < gts.length := by omega
  have hx' := zaQ (zbU hkl)
  have hsz := h4 _ (zcd hkl)
  have hE2 := hE.put hu hkl
  generalize hpu : zaE E (.s (gat gts k).name) (.t (.i .i64 k)) = E2 at hE2
  repeat' first | apply zg | apply zj | refine zf rfl fun K E hK hE => ?_ | (refine za fun κ η => ?_; simp only [go_sem, simprocAttr, hx', g7, hks, Ky.ok, hpu]; (repeat refine ⟨by omega, ?_⟩); refine η _ ?_; clear η κ) | (refine zd (hK _ ?_); clear hE hK E K) | apply zb | apply zq | apply zi | apply zs
  exact ⟨gts.length - (k + 1), by omega, k + 1, rfl, by omega, _, _, _, E2, zp rfl ⟨rfl, rfl, rfl, rfl, trivial⟩ trivial, rfl, hE2, hlo.trans (zde rfl)⟩
 ·simp only [decide_eq_false_iff_not] at hq
  obtain rfl : k = gts.length := by omega
  repeat' first | apply zg | refine zf rfl fun K E hK hE => ?_ | (refine za fun κ η => ?_; simp only [go_sem, simprocAttr]; refine η _ ?_; clear η κ) | (refine zd (hK _ ?_); clear hE hK E K) | apply zb | apply zt | apply zk | apply zu | apply zw | apply zx | (apply zm; apply zn; simp only [go_sem, simprocAttr])
  exact ⟨_, _, rfl, g7, hE, hlo⟩
end Go.Proofs.YtbhoeanfnbkenaaGreatDoor
namespace Go.Proofs.YtbhoeanfnbkenaaGreatDoor
open Go.RowKit Go.WideMaps
set_option maxRecDepth 100000
set_option linter.unusedSimpArgs false
section
variable {P : Program} {Hy : World → Prop}
theorem Cm.preCell {f : FuncId} {args : List A} {o : Nat → O} {R : List A → (Nat → O) → Prop} {c j id g z : Nat} {e ty : TypeId} {l : List A} (k1 : (o c).k = .cells ty l) (k2 : l[j]? = some .nilS) (k3 : id ≠ c) (k4 : (o id).gen < g)
  (h : Cm P Hy f args (obx (obx o id ⟨g, .row e z []⟩) c ⟨(o c).gen, .cells ty (l.set j (.row id g))⟩) R) : Cm P Hy f args o R :=
 ⟨h.fn, fun X B St w0 ι w cargs hM hs ha => by
  obtain ⟨ι2, m1, m2⟩ := hM.nilCell (e := e) (z := z) k1 k2 k3 k4
  exact h.go X B St w0 ι2 w cargs m1 hs (fun j v x h1 h2 => m2 _ _ (ha j v x h1 h2))⟩
theorem Cm.optCell {f : FuncId} {args : List A} {o : Nat → O} {R R' : List A → (Nat → O) → Prop} (h : Cm P Hy f args o R)
  (hr : ∀ rs o', R rs o' → R' rs o' ∨ ∃ (c j id g z : Nat) (e ty : TypeId) (l : List A), (o' c).k = .cells ty l ∧ l[j]? = some .nilS ∧ id ≠ c ∧ (o' id).gen < g ∧ R' rs (obx (obx o' id ⟨g, .row e z []⟩) c ⟨(o' c).gen, .cells ty (l.set j (.row id g))⟩)) : Cm P Hy f args o R' :=
 ⟨h.fn, fun X B St w0 ι w cargs hM hs ha => (h.go X B St w0 ι w cargs hM hs ha).mono (fun _ _ ⟨v, ι', o', rs, h1, h2, h3, h4⟩ => by
  rcases hr _ _ h2 with hr | ⟨c, j, id, g, z, e, ty, l, k1, k2, k3, k4, k5⟩
  ·exact ⟨v, ι', o', rs, h1, hr, h3, h4⟩
  ·obtain ⟨ι2, m1, m2⟩ := h3.nilCell (e := e) (z := z) k1 k2 k3 k4
   exact ⟨v, ι2, _, rs, h1, k5, m1, RresM.impI m2 h4⟩)⟩
end
variable (Hy : World → Prop)
attribute [local irreducible] zU zY cwp z1 z6 lpQ z8 asQ bdQ bdY zab zac zad zaa
def wid (j : Nat) : Nat := j + 10000
theorem zcx (j : Nat) : 10000 ≤ wid j := Nat.le_add_left _ _
theorem zeu (j : Nat) {k : Nat} (h : k < 10000) : (wid j = k) = False := eq_false (by have := zcx j; omega)
theorem zdf (j : Nat) {k : Nat} (h : k < 10000) : (k = wid j) = False := eq_false (by have := zcx j; omega)
def nmA (gs : List Gt) (j : Nat) : Ky := .s (gat gs j).name
structure LnS (o : Nat → O) (gs : List Gt) (gb gm gl : Nat) (E : List (Ky × A)) (lk : Nat → Nat) (W : Nat → List Int) (hg : Nat → Nat) (r : List Int) : Prop where
 b : ∃ x, o 900 = ⟨gb, .cells 120 [x, .row 902 gm, .row 903 gl]⟩ ∧ ((x = .nilS ∧ r = []) ∨ ∃ gh, x = .row 901 gh ∧ o 901 = ⟨gh, .row 3 1 (iR r)⟩)
 m : o 902 = ⟨gm, .map .str E⟩
 l : o 903 = ⟨gl, .row 3 1 (iR (za9 gs.length lk))⟩
 no : ∀ s : ByteArray, s ∉ zcA gs → zam E (.s s) = none
 ent : ∀ i, i < gs.length → zam E (nmA gs i) = if W i = [] then none else some (.row (wid i) (hg i))
 row : ∀ i, i < gs.length → W i ≠ [] → o (wid i) = ⟨hg i, .row 3 1 (iR (W i))⟩
theorem LnS.congr {o : Nat → O} {gs : List Gt} {gb gm gl : Nat} {E : List (Ky × A)} {lk : Nat → Nat} {W W' : Nat → List Int} {hg : Nat → Nat} {r : List Int} (h : LnS o gs gb gm gl E lk W hg r) (hw : ∀ i, i < gs.length → W' i = W i) : LnS o gs gb gm gl E lk W' hg r :=
 ⟨h.b, h.m, h.l, h.no, fun i hi => by rw [hw i hi]; exact h.ent i hi, fun i hi => by rw [hw i hi]; exact h.row i hi⟩
theorem LnS.fr {o o' : Nat → O} {gs : List Gt} {gb gm gl : Nat} {E : List (Ky × A)} {lk : Nat → Nat} {W : Nat → List Int} {hg : Nat → Nat} {r : List Int} (h : LnS o gs gb gm gl E lk W hg r) (hf : ∀ i, (900 ≤ i ∧ i < 904) ∨ 10000 ≤ i → o' i = o i) : LnS o' gs gb gm gl E lk W hg r := by
 refine ⟨?_, by rw [hf _ (.inl ⟨by decide, by decide⟩)]; exact h.m, by rw [hf _ (.inl ⟨by decide, by decide⟩)]; exact h.l, h.no, h.ent, fun i hi hw => by rw [hf _ (.inr (zcx i))]; exact h.row i hi hw⟩
 rw [hf _ (.inl ⟨by decide, by decide⟩), hf _ (.inl ⟨by decide, by decide⟩)]
 exact h.b
theorem LnS.add {o o' : Nat → O} {gs : List Gt} {gb gm gl : Nat} {E : List (Ky × A)} {lk lk' : Nat → Nat} {W W' : Nat → List Int} {hg : Nat → Nat} {r : List Int} (h : LnS o gs gb gm gl E lk W hg r) (hu : zb2 gs) {j : Nat} (hj : j < gs.length) {ky : Ky} (hky : nmA gs j = ky) (g' : Nat)
  (h0 : o' 900 = o 900) (h1 : o' 901 = o 901) (h2 : o' 902 = ⟨gm, .map .str (zaE E ky (.row (wid j) g'))⟩) (h3 : o' 903 = ⟨gl, .row 3 1 (iR (za9 gs.length lk'))⟩) (h4 : o' (wid j) = ⟨g', .row 3 1 (iR (W' j))⟩) (hn : W' j ≠ []) (hw : ∀ i, i < gs.length → i ≠ j → W' i = W i) (hr : ∀ i, i ≠ j → o' (wid i) = o (wid i)) :
  LnS o' gs gb gm gl (zaE E ky (.row (wid j) g')) lk' W' (fun i => if i = j then g' else hg i) r := by
 subst hky
 refine ⟨by rw [h0, h1]; exact h.b, h2, h3, fun s hs => ?_, fun i hi => ?_, fun i hi hne => ?_⟩
 ·rw [zcC, if_neg, h.no s hs]
  intro e
  have e : s = (gat gs j).name := by injection e
  exact hs (e ▸ List.mem_map_of_mem (zcd hj))
 ·rw [zcC]
  by_cases e : i = j
  ·subst e
   rw [if_pos rfl, if_neg hn, if_pos rfl]
  ·rw [if_neg (fun e2 => e (hu i j hi hj (by unfold nmA at e2; injection e2))), h.ent i hi, hw i hi e, if_neg e]
 ·by_cases e : i = j
  ·subst e
   rw [if_pos rfl]
   exact h4
  ·rw [hr i e, if_neg e, hw i hi e]
   exact h.row i hi (by rw [← hw i hi e]; exact hne)
theorem LnS.heap {o o' : Nat → O} {gs : List Gt} {gb gm gl : Nat} {E : List (Ky × A)} {lk : Nat → Nat} {W : Nat → List Int} {hg : Nat → Nat} {r r' : List Int} (h : LnS o gs gb gm gl E lk W hg r) (hp : HpS o' gb [.row 902 gm, .row 903 gl] r') (hf : FrH o o') : LnS o' gs gb gm gl E lk W hg r' := by
 obtain ⟨gh, k1, k2⟩ := hp.ex
 exact ⟨⟨_, k1, .inr ⟨gh, rfl, k2⟩⟩, by rw [hf 902 (by decide) (by decide) (by decide)]; exact h.m, by rw [hf 903 (by decide) (by decide) (by decide)]; exact h.l, h.no, h.ent, fun i hi hw => by
  have := zcx i
  rw [hf (wid i) (by omega) (by omega) (by omega)]
  exact h.row i hi hw⟩
theorem zlm {o : Nat → O} {gs : List Gt} {gb gm gl : Nat} {E : List (Ky × A)} {lk : Nat → Nat} {W : Nat → List Int} {hg : Nat → Nat} {r : List Int} (h : LnS o gs gb gm gl E lk W hg r) (hr : r.length ≤ 900000) (hh : zaC r r.length) (x : Int) : Cm Tryz.prog Hy 106 [hpI gb, .t (.ifc 3 (.i .i64 x))] o fun rs o' => rs = [] ∧ ∃ r', zaC r' r'.length ∧ r'.Perm (x :: r) ∧ LnS o' gs gb gm gl E lk W hg r' ∧ FrH o o' := by
 obtain ⟨y, h1, h2⟩ := h.b
 rcases h2 with ⟨rfl, rfl⟩ | ⟨gh, rfl, h2⟩
 ·have hp : HpS (obx (obx o 901 ⟨(o 901).gen + 1, .row 3 1 []⟩) 900 ⟨(o 900).gen, .cells 120 [.row 901 ((o 901).gen + 1), .row 902 gm, .row 903 gl]⟩) gb [.row 902 gm, .row 903 gl] [] := ⟨⟨_, by rw [h1]; rfl, rfl⟩⟩
  have hf : FrH o (obx (obx o 901 ⟨(o 901).gen + 1, .row 3 1 []⟩) 900 ⟨(o 900).gen, .cells 120 [.row 901 ((o 901).gen + 1), .row 902 gm, .row 903 gl]⟩) := fun i k1 k2 _ => by
   unfold obx
   rw [if_neg k1, if_neg k2]
  refine Cm.preCell (c := 900) (j := 0) (id := 901) (g := (o 901).gen + 1) (z := 1) (e := 3) (by rw [h1]) rfl (by decide) (Nat.lt_succ_self _) ?_
  refine (ze8 Hy hp hr hh x).mono ?_
  rintro rs o' ⟨rfl, r', a, b, c, d⟩
  exact ⟨rfl, r', a, b, h.heap c (hf.trans d), hf.trans d⟩
 ·refine (ze8 Hy (rest := [.row 902 gm, .row 903 gl]) ⟨⟨gh, h1, h2⟩⟩ hr hh x).mono ?_
  rintro rs o' ⟨rfl, r', a, b, c, d⟩
  exact ⟨rfl, r', a, b, h.heap c d, d⟩
end Go.Proofs.YtbhoeanfnbkenaaGreatDoor
