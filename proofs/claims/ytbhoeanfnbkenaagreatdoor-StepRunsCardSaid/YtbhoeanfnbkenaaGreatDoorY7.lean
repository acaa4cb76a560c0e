import Derived.Test.YtbhoeanfnbkenaaGreatDoorY6
namespace Go.Proofs.YtbhoeanfnbkenaaGreatDoor
open Go.RowKit Go.WideMaps
set_option maxRecDepth 100000
set_option linter.unusedSimpArgs false
variable (Hy : World → Prop)
attribute [local irreducible] zU zY cwp z1 z6 lpQ z8 asQ bdQ bdY zab zac zad zaa
theorem zjQ (w : List Bool) (h : w.length ≤ 1000000) : Ct Tryz.prog Hy 33 [.sl (bl w)] [.sl (bl w)] := by
 have hz := zcY w
 have hbl := zaX w
 generalize bl w = w at *
 refine zI (cls := _root_.id) zB zD Tryz.func33 rfl (by decide) (Nat.le_of_ble_eq_true rfl) ?_
 rw [show Tryz.f33.ntmps = 8 from rfl, zC]
 simp only [List.zipIdx_cons, List.zipIdx_nil, List.map_cons, List.map_nil, Nat.reduceAdd]
 repeat' first | apply zg | refine zf rfl fun K E hK hE => ?_ | (refine za fun κ η => ?_; simp only [go_sem, simprocAttr]; refine η _ ?_; clear η κ) | (refine zd (hK _ ?_); clear hE hK E K) | apply zb
 refine zfm fun κ η => ?_; simp only [go_sem, simprocAttr]; refine ⟨η _ ?_, fun nil_ => η _ ?_⟩ <;> clear η κ
 ·repeat' first | apply zg | refine zf rfl fun K E hK hE => ?_ | (refine za fun κ η => ?_; simp only [go_sem, simprocAttr, hz]; (repeat refine ⟨by omega, ?_⟩); refine η _ ?_; clear η κ) | (refine zd (hK _ ?_); clear hE hK E K) | apply zb | refine zh false rfl (fun h => (by cases h)) fun _ => ?_ | apply zi | apply zk | (apply zm; apply zn; simp only [go_sem, simprocAttr, hz])
 ·repeat' first | apply zg | refine zf rfl fun K E hK hE => ?_ | (refine za fun κ η => ?_; simp only [go_sem, simprocAttr, nil_]; refine η _ ?_; clear η κ) | (refine zd (hK _ ?_); clear hE hK E K) | apply zb | refine zh true rfl (fun _ => ?_) (fun h => (by cases h)) | apply zk | apply zy | (apply zm; apply zn; simp only [go_sem, simprocAttr, nil_])
theorem zgM {n : Nat} {F : Nat → A} {G : Nat → O} {ts : List (Nat × A)} {os : List (Nat × O)} (h : ∀ p ∈ os.map (·.1), ¬ zbl p) : ∀ i, zbl i → (nf n F G ts os).o i = G i := fun _ hi => zaY fun p hp e => h p hp (e ▸ hi)
def zbF (c : Ci) (seq : List (List Bool)) : Bool := seq.all fun x => decide (x.length = c.ins.length)
def zbi (c : Ci) (st : List Bool) (seq : List (List Bool)) (k : Nat) : List (List Bool) := (List.range k).map (zcZ c st seq)
theorem zgN (c : Ci) (st : List Bool) (seq : List (List Bool)) (k : Nat) : zbi c st seq (k + 1) = zbi c st seq k ++ [zcZ c st seq k] := by
 unfold zbi
 rw [List.range_succ, List.map_append]
 rfl
theorem zfd (c : Ci) (st : List Bool) (seq : List (List Bool)) (k : Nat) : (zbi c st seq k).length = k := by simp [zbi]
def zfe (c : Ci) (st : List Bool) (seq : List (List Bool)) : Int := if (zaw c).1 = 0 then (if 40 < seq.length then 8 else if st.length = c.las.length ∧ zbF c seq = true then 0 else 11) else 1
def zaA (c : Ci) (st : List Bool) (seq : List (List Bool)) : List (List Bool) × (List Bool × Int) := if zfe c st seq = 0 then (zbi c st seq seq.length, stN c st seq seq.length, 0) else ([], [], zfe c st seq)
theorem zcs {c : Ci} {st : List Bool} {seq : List (List Bool)} {e : Int} (h : zfe c st seq = e) (he : e ≠ 0) : zaA c st seq = ([], [], e) := by
 unfold zaA
 rw [h, if_neg he]
set_option maxHeartbeats 16000000 in
theorem zgO (c : Ci) (st : List Bool) (seq : List (List Bool)) (hr : CRoom c) (hgo : GOk c.gts) (hlo : LOk c.las) : Ct Tryz.prog Hy 18 [.ag (cE c), .sl (bl st), .sl (bb seq)] [.sl (bb (zaA c st seq).1), .sl (bl (zaA c st seq).2.1), .i .i64 (zaA c st seq).2.2] := by
 have hmb := zd1 Hy c hr hgo hlo
 by_cases h0 : (zaw c).1 = 0
 rotate_left
 ·rw [zcs (if_neg h0) (by decide)]
  rw [decide_eq_false h0] at hmb
  obtain ⟨ins, outs, las, gts⟩ := c
  simp only [cE] at hmb ⊢
  refine zI (cls := _root_.id) zB zD Tryz.func18 rfl (by decide) (Nat.le_of_ble_eq_true rfl) ?_
  rw [show Tryz.f18.ntmps = 56 from rfl, zC]
  simp only [List.zipIdx_cons, List.zipIdx_nil, List.map_cons, List.map_nil, Nat.reduceAdd]
  repeat' first | apply zg | refine zf rfl fun K E hK hE => ?_ | (refine za fun κ η => ?_; simp only [go_sem, simprocAttr]; refine η _ ?_; clear η κ) | (refine zd (hK _ ?_); clear hE hK E K) | apply zb
  refine za fun κ η => ?_; simp only [go_sem, simprocAttr]; refine ⟨_, hmb, ?_⟩; simp only [go_sem, simprocAttr]; refine η _ ?_; clear η κ
  repeat' first | apply zg | refine zf rfl fun K E hK hE => ?_ | (refine za fun κ η => ?_; simp only [go_sem, simprocAttr]; refine η _ ?_; clear η κ) | (refine zd (hK _ ?_); clear hE hK E K) | apply zb | refine zh true rfl (fun _ => ?_) (fun h => (by cases h)) | apply zk | apply zy | (apply zm; apply zn; simp only [go_sem, simprocAttr])
  rfl
 rw [decide_eq_true h0] at hmb
 by_cases h1 : 40 < seq.length
 ·rw [zcs ((if_pos h0).trans (if_pos h1)) (by decide)]
  have h1' : ((40 : Int) < seq.length) = True := eq_true (by omega)
  obtain ⟨ins, outs, las, gts⟩ := c
  simp only [cE] at hmb ⊢
  refine zI (cls := _root_.id) zB zD Tryz.func18 rfl (by decide) (Nat.le_of_ble_eq_true rfl) ?_
  rw [show Tryz.f18.ntmps = 56 from rfl, zC]
  simp only [List.zipIdx_cons, List.zipIdx_nil, List.map_cons, List.map_nil, Nat.reduceAdd]
  repeat' first | apply zg | refine zf rfl fun K E hK hE => ?_ | (refine za fun κ η => ?_; simp only [go_sem, simprocAttr]; refine η _ ?_; clear η κ) | (refine zd (hK _ ?_); clear hE hK E K) | apply zb
  refine za fun κ η => ?_; simp only [go_sem, simprocAttr]; refine ⟨_, hmb, ?_⟩; simp only [go_sem, simprocAttr]; refine η _ ?_; clear η κ
  repeat' first | apply zg | refine zf rfl fun K E hK hE => ?_ | (refine za fun κ η => ?_; simp only [go_sem, simprocAttr, h1']; refine η _ ?_; clear η κ) | (refine zd (hK _ ?_); clear hE hK E K) | apply zb | refine zh true rfl (fun _ => ?_) (fun h => (by cases h)) | refine zh false rfl (fun h => (by cases h)) fun _ => ?_ | apply zi | apply zk | apply zy | (apply zm; apply zn; simp only [go_sem, simprocAttr, h1'])
  rfl
 have h1' : ((40 : Int) < seq.length) = False := eq_false (by omega)
 by_cases h2 : st.length = c.las.length
 rotate_left
 ·rw [zcs ((if_pos h0).trans ((if_neg h1).trans (if_neg fun h => h2 h.1))) (by decide)]
  have h2' : ((st.length : Int) = c.las.length) = False := eq_false (by omega)
  obtain ⟨ins, outs, las, gts⟩ := c
  simp only [cE] at hmb h2' ⊢
  refine zI (cls := _root_.id) zB zD Tryz.func18 rfl (by decide) (Nat.le_of_ble_eq_true rfl) ?_
  rw [show Tryz.f18.ntmps = 56 from rfl, zC]
  simp only [List.zipIdx_cons, List.zipIdx_nil, List.map_cons, List.map_nil, Nat.reduceAdd]
  repeat' first | apply zg | refine zf rfl fun K E hK hE => ?_ | (refine za fun κ η => ?_; simp only [go_sem, simprocAttr]; refine η _ ?_; clear η κ) | (refine zd (hK _ ?_); clear hE hK E K) | apply zb
  refine za fun κ η => ?_; simp only [go_sem, simprocAttr]; refine ⟨_, hmb, ?_⟩; simp only [go_sem, simprocAttr]; refine η _ ?_; clear η κ
  repeat' first | apply zg | refine zf rfl fun K E hK hE => ?_ | (refine za fun κ η => ?_; simp only [go_sem, simprocAttr, h1', h2']; (repeat refine ⟨by omega, ?_⟩); refine η _ ?_; clear η κ) | (refine zd (hK _ ?_); clear hE hK E K) | apply zb | refine zh true rfl (fun _ => ?_) (fun h => (by cases h)) | refine zh false rfl (fun h => (by cases h)) fun _ => ?_ | apply zi | apply zk | apply zy | (apply zm; apply zn; simp only [go_sem, simprocAttr, h1', h2'])
  rfl
 have h2' : ((st.length : Int) = c.las.length) = True := eq_true (by omega)
 have hm := ((zcL c).1 h0).1
 have hnm := zfK Hy c hm hr hgo hlo
 have hms := fun (g : Nat) (o : Nat → O) (h : Mch c g o) => zmQ Hy c st seq h
 have hit := fun (hf : zbF c seq = true) (g g3 g4 g5 : Nat) (I : Nat → (Nat → O) → Prop) hI (o : Nat → O) h0 hS lb => zmR Hy c hm st seq h2 (fun x hx => of_decide_eq_true (List.all_eq_true.1 hf x hx)) (by omega) (g := g) (g3 := g3) (g4 := g4) (g5 := g5) (I := I) hI (o := o) h0 hS lb
 obtain ⟨⟨hn, _⟩, _⟩ := zcS hm
 have hcl := zjQ Hy st (by omega)
 have hno : zbF c seq = false → zaA c st seq = ([], [], 11) := fun hf => zcs ((if_pos h0).trans ((if_neg h1).trans (if_neg fun h => by rw [hf] at h; cases h.2))) (by decide)
 have hyes : zbF c seq = true → zaA c st seq = (zbi c st seq seq.length, stN c st seq seq.length, 0) := fun hf => if_pos ((if_pos h0).trans ((if_neg h1).trans (if_pos ⟨h2, hf⟩)))
 have hos := zgN c st seq
 have hol := zfd c st seq
 have hon0 : zbi c st seq 0 = [] := rfl
 have hst0 : stN c st seq 0 = st := rfl
 obtain ⟨R, hR⟩ : ∃ R, R = zaA c st seq := ⟨_, rfl⟩
 rw [← hR]
 rw [← hR] at hno hyes
 have hfit : ∀ (k : Nat) (x : List Bool), seq[k]? = some x → ¬ x.length = c.ins.length → zbF c seq = false := fun k x hx hne => by
  unfold zbF
  rw [List.all_eq_false]
  exact ⟨x, List.mem_of_getElem? hx, by simpa using hne⟩
 have hfit2 : (∀ (j : Nat) x, j < seq.length → seq[j]? = some x → x.length = c.ins.length) → zbF c seq = true := fun h => by
  unfold zbF
  rw [List.all_eq_true]
  intro x hx
  obtain ⟨j, hj⟩ := List.getElem?_of_mem hx
  exact decide_eq_true (h j x (List.getElem?_eq_some_iff.1 hj).1 hj)
 simp only [cA] at hnm
 simp only [cE] at hmb ⊢
 clear hR h0
 generalize zbi c st seq = ON at *
 refine zI (cls := _root_.id) zB zD Tryz.func18 rfl (by decide) (Nat.le_of_ble_eq_true rfl) ?_
 rw [show Tryz.f18.ntmps = 56 from rfl, zC]
 simp only [List.zipIdx_cons, List.zipIdx_nil, List.map_cons, List.map_nil, Nat.reduceAdd]
 repeat' first | apply zg | refine zf rfl fun K E hK hE => ?_ | (refine za fun κ η => ?_; simp only [go_sem, simprocAttr]; refine η _ ?_; clear η κ) | (refine zd (hK _ ?_); clear hE hK E K) | apply zb
 refine za fun κ η => ?_; simp only [go_sem, simprocAttr]; refine ⟨_, hmb, ?_⟩; simp only [go_sem, simprocAttr]; refine η _ ?_; clear η κ
 repeat' first | apply zg | apply zj | refine zf rfl fun K E hK hE => ?_ | (refine za fun κ η => ?_; simp only [go_sem, simprocAttr, h1', h2']; (repeat refine ⟨by omega, ?_⟩); refine η _ ?_; clear η κ) | (refine zd (hK _ ?_); clear hE hK E K) | apply zb | refine zh false rfl (fun h => (by cases h)) fun _ => ?_ | apply zi
 refine zW (fun m s' => ∃ k, m = seq.length - k ∧ k ≤ seq.length ∧ (∀ (j : Nat) x, j < k → seq[j]? = some x → x.length = c.ins.length) ∧ ∃ F G0, s' = nf 56 F G0 [(1, .t (.sl (bl st))), (2, .t (.sl (bb seq))), (3, .ptr 3 1 0), (27, .t (.sl (bb seq))), (28, .t (.i .i64 seq.length)), (29, .t (.i .i64 k))] [] ∧ G0 3 = ⟨1, .cells 26 [.t (.sl (sR c.ins)), .t (.sl (sR c.outs)), .t (.sl (lsR c.las)), .t (.sl (gsR c.gts))]⟩) seq.length ?_ ?_
 ·exact ⟨0, by omega, by omega, fun j x hj => absurd hj (Nat.not_lt_zero j), _, _, zp rfl ⟨rfl, rfl, rfl, rfl, rfl, rfl, trivial⟩ trivial, rfl⟩
 rintro m s' ⟨k, rfl, hk, hall, F, G0, rfl, b3⟩
 by_cases hd : k < seq.length
 ·have hd' : ((k : Int) < seq.length) = True := eq_true (by omega)
  obtain ⟨x, hx⟩ : ∃ x, seq[k]? = some x := ⟨_, List.getElem?_eq_getElem hd⟩
  have hx' := zdp hx
  by_cases hxl : x.length = c.ins.length
  ·have hxl' : ((x.length : Int) = c.ins.length) = True := eq_true (by omega)
   repeat' first | apply zg | apply zj | refine zf rfl fun K E hK hE => ?_ | (refine za fun κ η => ?_; simp only [go_sem, simprocAttr, hd', hx', b3, hxl']; (repeat refine ⟨by omega, ?_⟩); refine η _ ?_; clear η κ) | (refine zd (hK _ ?_); clear hE hK E K) | apply zb | refine zh true rfl (fun _ => ?_) (fun h => (by cases h)) | refine zh false rfl (fun h => (by cases h)) fun _ => ?_ | apply zq | apply zi | apply zs
   refine ⟨seq.length - (k + 1), by omega, k + 1, rfl, by omega, fun j y hj hy => ?_, _, _, zp rfl ⟨rfl, rfl, rfl, rfl, rfl, rfl, trivial⟩ trivial, b3⟩
   rcases Nat.lt_or_eq_of_le (Nat.lt_succ_iff.1 hj) with h | rfl
   ·exact hall j y h hy
   ·rw [hx] at hy
    cases hy
    exact hxl
  ·have hxl' : ((x.length : Int) = c.ins.length) = False := eq_false (by omega)
   obtain rfl := hno (hfit k x hx hxl)
   repeat' first | apply zg | apply zj | refine zf rfl fun K E hK hE => ?_ | (refine za fun κ η => ?_; simp only [go_sem, simprocAttr, hd', hx', b3, hxl']; (repeat refine ⟨by omega, ?_⟩); refine η _ ?_; clear η κ) | (refine zd (hK _ ?_); clear hE hK E K) | apply zb | refine zh true rfl (fun _ => ?_) (fun h => (by cases h)) | apply zi | apply zk | apply zy | apply zJ | apply zL | (apply zm; apply zn; simp only [go_sem, simprocAttr, hd', hx', b3, hxl'])
   rfl
 have hd' : ((k : Int) < seq.length) = False := eq_false (by omega)
 obtain rfl : k = seq.length := by omega
 have hft := hfit2 hall
 obtain rfl := hyes hft
 clear hno hyes hfit hfit2 hall
 repeat' first | apply zg | refine zf rfl fun K E hK hE => ?_ | (refine za fun κ η => ?_; simp only [go_sem, simprocAttr, hd', b3]; refine η _ ?_; clear η κ) | (refine zd (hK _ ?_); clear hE hK E K) | apply zb | refine zh false rfl (fun h => (by cases h)) fun _ => ?_ | apply zt | apply zu | apply zw | apply zx
 refine za fun κ η => ?_; simp only [go_sem, simprocAttr]; refine ⟨_, hcl, ?_⟩; simp only [go_sem, simprocAttr]; refine η _ ?_; clear η κ
 repeat' first | apply zg | refine zf rfl fun K E hK hE => ?_ | (refine za fun κ η => ?_; simp only [go_sem, simprocAttr, b3]; refine η _ ?_; clear η κ) | (refine zd (hK _ ?_); clear hE hK E K) | apply zb
 refine zaj fun κ η => ?_; simp only [go_sem, simprocAttr]; refine ⟨_, hnm _, ?_⟩; rintro _ o1 ⟨g, rfl, hmc, hfI⟩; simp only [go_sem, simprocAttr]; refine η _ ?_; clear η κ
 repeat' (refine za fun κ η => ?_; simp only [go_sem, simprocAttr]; refine η _ ?_; clear η κ)
 refine zaj fun κ η => ?_; simp only [go_sem, simprocAttr]; refine ⟨_, hms _ _ hmc, ?_⟩; rintro _ o2 ⟨g3, g4, g5, rfl, hS, hfJ⟩; simp only [go_sem, simprocAttr]; refine η _ ?_; clear η κ
 have e11 : o2 11 = ⟨(G0 11).gen + 1, .cells 39 [.nilS]⟩ := ((hfJ 11 (by omega)).trans (hfI 11 (by omega))).trans rfl
 have e12 : o2 12 = ⟨(G0 12).gen + 1, .cells 27 [.t (.sl (bl st))]⟩ := ((hfJ 12 (by omega)).trans (hfI 12 (by omega))).trans rfl
 clear hfJ hfI hmc
 let I : Nat → (Nat → O) → Prop := fun k o => ∃ x, o 11 = ⟨(G0 11).gen + 1, .cells 39 [x]⟩ ∧ Acc o 52 27 1 (bb (ON k)) x ∧ o 12 = ⟨(G0 12).gen + 1, .cells 27 [.t (.sl (bl (stN c st seq k)))]⟩
 have hI : ∀ n o o', I n o → FrS o o' → I n o' := fun n o o' ⟨x, h1, h2, h3⟩ hf => by
  refine ⟨x, (hf 11 (by unfold zbl zaT zau; omega)).trans h1, ?_, (hf 12 (by unfold zbl zaT zau; omega)).trans h3⟩
  rcases h2 with h2 | ⟨q, e, h2⟩
  ·exact .inl h2
  ·exact .inr ⟨q, e, (hf 52 (by unfold zbl zaT zau; omega)).trans h2⟩
 have hI0 : I 0 o2 := ⟨.nilS, e11, .inl ⟨by rw [hon0]; rfl, rfl⟩, e12⟩
 repeat' first | apply zj | (refine zd (hK _ ?_); clear hE hK E K) | apply zb
 refine zhm (YS c st seq I) _ rfl (fun lb => hit hft g g3 g4 g5 I hI _ hI0 hS lb) (fun args o1 Rb hy => ?_) (fun rs o' hr => ?_)
 ·obtain ⟨k, hkl, rfl, ⟨x, i11, hx, i12⟩, hRb⟩ := hy
  refine ⟨rfl, ?_⟩
  have hsn : bb (ON (k + 1)) = bb (ON k) ++ [[.sl (bl (zcZ c st seq k))]] := by rw [hos, ziL]; rfl
  have hlen : (bb (ON k)).length ≤ 1000 := by rw [zd3, hol]; omega
  generalize bb (ON k) = rw0 at hsn hlen hx
  simp only [go_sem]
  repeat' first | apply zg | refine zf rfl fun K E hK hE => ?_ | (refine za fun κ η => ?_; simp only [go_sem, simprocAttr]; refine η _ ?_; clear η κ) | (refine zd (hK _ ?_); clear hE hK E K) | apply zb
  refine zhl ?_
  rcases hx with ⟨y0, rfl⟩ | ⟨q, rfl, hr2⟩
  ·rw [y0] at hsn
   repeat' first | apply zg | apply zj | refine zf rfl fun K E hK hE => ?_ | (refine za fun κ η => ?_; simp only [go_sem, simprocAttr, i11, i12]; refine η _ ?_; clear η κ) | (refine zd (hK _ ?_); clear hE hK E K) | apply zb | apply zq
   exact zel (hRb _ ⟨_, rfl, .inr ⟨_, rfl, by rw [hsn]; rfl⟩, rfl⟩ (zgM fun p hp => by simp only [List.map_cons, List.map_nil, List.mem_cons, List.not_mem_nil, or_false] at hp; unfold zbl zaT zau; omega))
  ·repeat' first | apply zg | apply zj | refine zf rfl fun K E hK hE => ?_ | (refine za fun κ η => ?_; simp only [go_sem, simprocAttr, i11, i12, hr2]; (repeat refine ⟨by omega, ?_⟩); refine η _ ?_; clear η κ) | (refine zd (hK _ ?_); clear hE hK E K) | apply zb | apply zq
   exact zel (hRb _ ⟨_, rfl, .inr ⟨_, rfl, by rw [hsn]; rfl⟩, rfl⟩ (zgM fun p hp => by simp only [List.map_cons, List.map_nil, List.mem_cons, List.not_mem_nil, or_false] at hp; unfold zbl zaT zau; omega))
 ·obtain ⟨rfl, x, i11, hx, i12⟩ := hr
  rcases hx with ⟨y0, rfl⟩ | ⟨q, rfl, hr2⟩
  ·rw [y0]
   repeat' first | apply zg | refine zG rfl (by kernel_rfl) fun K E hK hE => ?_ | (refine zr (by kernel_rfl) fun κ η => ?_; simp only [go_sem, simprocAttr, i11, i12]; refine η _ ?_; clear η κ) | apply zb | (refine zH (hK _ ?_); clear hE hK E K) | apply zq | apply zk | (apply zm; apply zn; simp only [go_sem, simprocAttr, i11, i12])
  ·repeat' first | apply zg | refine zG rfl (by kernel_rfl) fun K E hK hE => ?_ | (refine zr (by kernel_rfl) fun κ η => ?_; simp only [go_sem, simprocAttr, i11, i12, hr2]; refine η _ ?_; clear η κ) | apply zb | (refine zH (hK _ ?_); clear hE hK E K) | apply zq | apply zk | (apply zm; apply zn; simp only [go_sem, simprocAttr, i11, i12, hr2])
end Go.Proofs.YtbhoeanfnbkenaaGreatDoor
