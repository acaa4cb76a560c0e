import Derived.Test.YtbhoeanfnbkenaaGreatDoorR13
namespace Go.Proofs.YtbhoeanfnbkenaaGreatDoor
open Go.RowKit Go.WideMaps
set_option maxRecDepth 100000
set_option linter.unusedSimpArgs false
variable (Hy : World → Prop)
attribute [local irreducible] zU zY cwp z1 z6 lpQ z8 asQ bdQ bdY zab zac zad zaa
def zaH (i : Nat) : Prop := (900 ≤ i ∧ i < 904) ∨ (6100 ≤ i ∧ i < 6300) ∨ (6800 ≤ i ∧ i < 6900) ∨ 10000 ≤ i
def FrL (o o' : Nat → O) : Prop := ∀ i, ¬ zaH i → o' i = o i
theorem FrL.refl (o : Nat → O) : FrL o o := fun _ _ => rfl
theorem FrL.trans {o o1 o2 : Nat → O} (h : FrL o o1) (k : FrL o1 o2) : FrL o o2 := fun i hi => (k i hi).trans (h i hi)
theorem zcB {n : Nat} {F : Nat → A} {G : Nat → O} {ts : List (Nat × A)} {os : List (Nat × O)} (h : ∀ p ∈ os.map (·.1), zaH p) : FrL G (nf n F G ts os).o := fun _ hi => zaY fun p hp e => hi (e ▸ h p hp)
theorem FrH.toL {o o' : Nat → O} (h : FrH o o') : FrL o o' := fun i hi => by
 unfold zaH at hi
 exact h i (by omega) (by omega) (by omega)
theorem FrI.toL {a b : Nat} {o o' : Nat → O} (h : FrI a b o o') (h1 : ∀ i, a ≤ i → i < b → zaH i) : FrL o o' := fun i hi => h i (by
 by_cases e : a ≤ i
 ·by_cases e2 : i < b
  ·exact absurd (h1 i e e2) hi
  ·exact .inr (by omega)
 ·exact .inl (by omega))
theorem zeM {N : Nat} {lk : Nat → Nat} {i : Nat} (h : i < N) : (iR (za9 N lk))[i]? = some [.i .i64 (lk i : Int)] := zcr (by
 unfold za9
 rw [List.getElem?_map, List.getElem?_range h]
 rfl)
theorem zio {N : Nat} {lk lk' : Nat → Nat} {i : Nat} {x : Int} (h : i < N) (h1 : ∀ j, j ≠ i → lk' j = lk j) (h2 : x = (lk' i : Int)) : (iR (za9 N lk)).set i [.i .i64 x] = iR (za9 N lk') := by
 rw [ze6, zl3 h h1 h2]
theorem zmh (N : Nat) {lk : Nat → Nat} (h : ∀ i, lk i = 0) : List.replicate N [T.i .i64 0] = iR (za9 N lk) := by
 unfold iR za9
 rw [List.map_map]
 refine List.ext_getElem (by simp) fun i h1 h2 => ?_
 simp [h]
attribute [go_sem] zl2
theorem ziq {gs : List Gt} {i p : Nat} {x : ByteArray} (hx : (gat gs i).ins[p]? = some x) (h : zaO gs zaq x = true) : wtI gs i (p + 1) x ≠ [] := by
 rw [(zdX hx h).1]
 simp
theorem zfJ {gs : List Gt} (s : ByteArray) (h : ∀ g ∈ gs, g.ins.length ≤ 8) : ∀ n, n ≤ gs.length → (za8 gs s n).length ≤ 8 * n
 | 0, _ => by simp [za8]
 | n + 1, hn => by
  have h1 := zfJ s h n (by omega)
  have h2 := h _ (zcd (show n < gs.length by omega))
  have h3 : cnt (gat gs n).ins s ≤ (gat gs n).ins.length := List.length_filter_le _ _
  rw [zfF, List.length_append, List.length_replicate]
  omega
theorem zmi {gs : List Gt} (s : ByteArray) (h : ∀ g ∈ gs, g.ins.length ≤ 8) {i : Nat} (hi : i < gs.length) (p : Nat) : (wtI gs i p s).length ≤ 8 * i + 8 := by
 unfold wtI
 split
 ·have h1 := zfJ s h i (by omega)
  have h2 := h _ (zcd hi)
  have h3 : cnt ((gat gs i).ins.take p) s ≤ ((gat gs i).ins.take p).length := List.length_filter_le _ _
  have h4 := List.length_take_le' p (gat gs i).ins
  unfold zaf
  rw [List.length_map, List.length_append, List.length_replicate]
  omega
 ·simp
set_option maxHeartbeats 4000000 in
theorem zmj (c : Ci) (hc : COk c) (o : Nat → O) : Cm Tryz.prog Hy 90 [.ag (cA c)] o fun rs o' => ∃ gb, rs = [.ptr 900 gb 0] ∧ ∃ gm gl E hg r, LnS o' c.gts gb gm gl E (lkI c.gts c.gts.length 0) (fun i => wtI c.gts c.gts.length 0 (gat c.gts i).name) hg r ∧ zaC r r.length ∧ Ready c.gts.length zaq (lkI c.gts c.gts.length 0) r ∧ FrL o o' := by
 have hpl := zll Hy c hc
 obtain ⟨ins, outs, las, gts⟩ := c
 obtain ⟨_, h2, h3, h4, h5, hu⟩ := hc
 simp only at h2 h3 h4 h5 hu hpl
 have hM := zdT
 have hM2 := zhR
 have hks : zaS tt 9 = .str := rfl
 have hz := zmh gts.length (zl7 gts)
 refine zax (cls := fun d => if d = 17 then 900 else if d = 11 then 902 else if d = 15 then 903 else 6200 + d) zB zD Tryz.func90 rfl (by decide) (Nat.le_of_ble_eq_true rfl) ?_
 rw [show Tryz.f90.ntmps = 83 from rfl, zC]
 simp only [List.zipIdx_cons, List.zipIdx_nil, List.map_cons, List.map_nil, Nat.reduceAdd, cA]
 repeat' first | apply zg | refine zf rfl fun K E hK hE => ?_ | (refine za fun κ η => ?_; simp only [go_sem, simprocAttr, hks, hz]; (repeat refine ⟨by omega, ?_⟩); refine η _ ?_; clear η κ) | (refine zd (hK _ ?_); clear hE hK E K) | apply zb
 refine zaj fun κ η => ?_; simp only [go_sem, simprocAttr]; refine ⟨_, hpl _, ?_⟩; rintro _ o1 ⟨q, E0, rfl, hq, hE0, hF⟩; simp only [go_sem, simprocAttr]; refine η _ ?_; clear η κ
 have g1 : o1 6201 = ⟨_, .cells 26 [.t (.sl (sR ins)), .t (.sl (sR outs)), .t (.sl (lsR las)), .t (.sl (gsR gts))]⟩ := hF 6201 (.inr (by decide))
 have g900 : o1 900 = ⟨_, .cells 120 [.nilS, .row 902 _, .row 903 _]⟩ := hF 900 (.inl (by decide))
 have g902 : o1 902 = ⟨_, .map .str []⟩ := hF 902 (.inl (by decide))
 have g903 : o1 903 = ⟨_, .row 3 1 (iR (za9 gts.length (lkI gts 0 0)))⟩ := hF 903 (.inl (by decide))
 have hL0 : FrL o o1 := FrL.trans (zcB (by simp [zaH])) (hF.toL fun i h1 h2 => .inr (.inl ⟨h1, by omega⟩))
 repeat' first | apply zg | apply zj | refine zf rfl fun K E hK hE => ?_ | (refine za fun κ η => ?_; simp only [go_sem, simprocAttr, g1]; (repeat refine ⟨by omega, ?_⟩); refine η _ ?_; clear η κ) | (refine zd (hK _ ?_); clear hE hK E K) | apply zb
 refine zW (fun m s' => ∃ k : Nat, m = gts.length - k ∧ k ≤ gts.length ∧ ∃ F G0 q1 gb gm gl E hg r, s' = nf 83 F G0 [(1, .ptr 6201 q1 0), (3, .ptr 900 gb 0), (4, .row 6106 q), (21, .t (.sl (gsR gts))), (22, .t (.i .i64 gts.length)), (23, .t (.i .i64 k))] [] ∧ G0 6106 = ⟨q, .map .str E0⟩ ∧ LnS G0 gts gb gm gl E (lkI gts k 0) (fun i => wtI gts k 0 (gat gts i).name) hg r ∧ zaC r r.length ∧ Ready k zaq (lkI gts k 0) r ∧ FrL o G0) gts.length ?_ ?_
 ·refine ⟨0, by omega, by omega, _, _, _, _, _, _, [], fun _ => 0, [], zp rfl ⟨rfl, rfl, rfl, rfl, rfl, rfl, trivial⟩ trivial, hq, ⟨⟨_, g900, .inl ⟨rfl, rfl⟩⟩, g902, g903, fun _ _ => rfl, fun i _ => ?_, fun i _ hn => ?_⟩, (fun c h0 h1 => absurd h1 (Nat.not_lt_zero c)), Ready.start _ _, hL0⟩
  ·rw [zik, if_pos rfl]; rfl
  ·rw [zik] at hn; exact absurd rfl hn
 clear g1 g900 g902 g903 hL0 hF hq
 rintro m s' ⟨k, rfl, hk, F, G0, q1, gb, gm, gl, E, hg, r, rfl, hq, hS, hH, hR, hF⟩
 repeat' first | apply zg | refine zf rfl fun K E hK hE => ?_ | (refine za fun κ η => ?_; simp only [go_sem, simprocAttr]; refine η _ ?_; clear η κ) | (refine zd (hK _ ?_); clear hE hK E K) | apply zb
 refine zh _ rfl (fun hc => ?_) (fun hc => ?_)
 rotate_left
 ·simp only [decide_eq_false_iff_not] at hc
  obtain rfl : k = gts.length := by omega
  repeat' first | apply zg | refine zf rfl fun K E hK hE => ?_ | (refine za fun κ η => ?_; simp only [go_sem, simprocAttr]; refine η _ ?_; clear η κ) | (refine zd (hK _ ?_); clear hE hK E K) | apply zb | apply zt | apply zk | apply zu | apply zw | apply zx | (apply zm; apply zn; simp only [go_sem, simprocAttr])
  exact ⟨_, rfl, _, _, _, _, _, hS, hH, hR, hF⟩
 simp only [decide_eq_true_eq] at hc
 have hkl : k < gts.length := by omega
 have hx' := zaQ (zbU hkl)
 have hil := h3 _ (zcd hkl)
 repeat' first | apply zg | apply zj | refine zf rfl fun K E hK hE => ?_ | (refine za fun κ η => ?_; simp only [go_sem, simprocAttr, hx']; (repeat refine ⟨by omega, ?_⟩); refine η _ ?_; clear η κ) | (refine zd (hK _ ?_); clear hE hK E K) | apply zb | apply zi
 refine zW (fun m s' => ∃ p : Nat, m = (gat gts k).ins.length - p ∧ p ≤ (gat gts k).ins.length ∧ ∃ F G0 E hg, s' = nf 83 F G0 [(1, .ptr 6201 q1 0), (3, .ptr 900 gb 0), (4, .row 6106 q), (5, .t (.i .i64 k)), (21, .t (.sl (gsR gts))), (22, .t (.i .i64 gts.length)), (23, .t (.i .i64 k)), (29, .t (.sl (sR (gat gts k).ins))), (30, .t (.i .i64 (gat gts k).ins.length)), (31, .t (.i .i64 p))] [] ∧ G0 6106 = ⟨q, .map .str E0⟩ ∧ LnS G0 gts gb gm gl E (lkI gts k p) (fun i => wtI gts k p (gat gts i).name) hg r ∧ FrL o G0) (gat gts k).ins.length ?_ ?_
 ·exact ⟨0, by omega, by omega, _, _, _, _, zp rfl ⟨rfl, rfl, rfl, rfl, rfl, rfl, rfl, rfl, rfl, rfl, trivial⟩ trivial, hq, hS.fr (fun i hi => zaY (by simp; omega)), hF.trans (zcB (by simp [zaH]))⟩
 clear hq hS hF hg E
 rintro m s' ⟨p, rfl, hp, F, G0, E, hg, rfl, hq, hS, hF⟩
 repeat' first | apply zg | refine zf rfl fun K E hK hE => ?_ | (refine za fun κ η => ?_; simp only [go_sem, simprocAttr]; refine η _ ?_; clear η κ) | (refine zd (hK _ ?_); clear hE hK E K) | apply zb
 refine zh _ rfl (fun hc => ?_) (fun hc => ?_)
 ·simp only [decide_eq_true_eq] at hc
  obtain ⟨x, hx⟩ : ∃ x, (gat gts k).ins[p]? = some x := ⟨_, List.getElem?_eq_getElem (by omega)⟩
  have hxs := za5 hx
  have hsz := h5 _ (zcd hkl) x (List.mem_of_getElem? hx)
  cases hn : zaO gts zaq x with
  | false =>
   have hget : zam E0 (.s x) = none := hE0.1 x (by
    rw [List.take_of_length_le (Nat.le_refl _), ← zeJ, ← zfI, hn]
    simp)
   repeat' first | apply zg | apply zj | refine zf rfl fun K E hK hE => ?_ | (refine za fun κ η => ?_; simp only [go_sem, simprocAttr, hxs, hq, hks, Ky.ok, hget]; (repeat refine ⟨by omega, ?_⟩); refine η _ ?_; clear η κ) | (refine zd (hK _ ?_); clear hE hK E K) | apply zb | refine zh false rfl (fun h => (by cases h)) fun _ => ?_ | apply zq | apply zi | apply zs
   refine ⟨(gat gts k).ins.length - (p + 1), by omega, p + 1, rfl, by omega, _, _, E, hg, zp rfl ⟨rfl, rfl, rfl, rfl, rfl, rfl, rfl, rfl, rfl, rfl, trivial⟩ trivial, hq, ?_, hF⟩
   rw [zl9 hx hn, zma hx hn]
   exact hS
  | true =>
   obtain ⟨j, hj, hjx⟩ := zlk ((zeJ _ _).1 ((zfI gts x).symm.trans hn))
   have hget : zam E0 (.s x) = some (.t (.i .i64 j)) := hjx ▸ hE0.2 j hj
   have hln := zl8 hx hn
   have hle : lkI gts k p k ≤ 8 := by
    unfold lkI
    rw [if_neg (by omega), if_pos rfl]
    exact Nat.le_trans (List.length_filter_le _ _) (Nat.le_trans (List.length_take_le' _ _) hil)
   have hlg := zeM (lk := lkI gts k p) hkl
   have hls := zio (N := gts.length) hkl hln.1 (x := (lkI gts k p k : Int) + 1) (by rw [hln.2]; omega)
   have hent := hS.ent j hj
   have hm902 := hS.m
   have hl903 := hS.l
   have hrw := hS.row j hj
   obtain ⟨y, hb900, _⟩ := id hS.b
   have w1 := zeu j (k := 902) (by decide)
   have w2 := zeu j (k := 903) (by decide)
   have w3 := zeu j (k := 6254) (by decide)
   have w4 := zeu j (k := 900) (by decide)
   have w5' := zdf j (k := 901) (by decide)
   have w6' := zdf j (k := 6106) (by decide)
   have hky : nmA gts j = .s x := congrArg Ky.s hjx
   have hwl := zmi x h3 hkl p
   have w1' := zdf j (k := 902) (by decide)
   have w2' := zdf j (k := 903) (by decide)
   have w3' := zdf j (k := 6254) (by decide)
   have w4' := zdf j (k := 900) (by decide)
   unfold nmA at hent
   simp only [hjx] at hent hrw
   by_cases hW : wtI gts k p x = []
   ·rw [if_pos hW] at hent
    repeat' first | apply zg | apply zj | refine zf rfl fun K E hK hE => ?_ | refine zG rfl (by kernel_rfl) fun K E hK hE => ?_ | ((first | refine za fun κ η => ?_ | refine zr (by kernel_rfl) fun κ η => ?_); simp only [go_sem, simprocAttr, hxs, hq, hks, Ky.ok, hget, hb900, hm902]; (repeat refine ⟨by omega, ?_⟩); refine η _ ?_; clear η κ) | (refine zd (hK _ ?_); clear hE hK E K) | apply zb | refine zh true rfl (fun _ => ?_) (fun h => (by cases h)) | apply zi
    (refine zr (by kernel_rfl) fun κ η => ?_; simp only [go_sem, simprocAttr, hks, Ky.ok, hm902, hent]; (repeat refine ⟨by omega, ?_⟩); refine η _ ?_; clear η κ)
    (refine zr (by kernel_rfl) fun κ η => ?_; simp only [go_sem, simprocAttr]; (repeat refine ⟨by omega, ?_⟩); refine η _ ?_; clear η κ)
    (refine zr (by kernel_rfl) fun κ η => ?_; simp only [go_sem, simprocAttr]; (repeat refine ⟨by omega, ?_⟩); refine η _ ?_; clear η κ)
    (refine zkp (fun _ => wid j) (by kernel_rfl) fun κ η => ?_; simp only [go_sem, simprocAttr, w1, w2, w3, w4]; (repeat refine ⟨by omega, ?_⟩); refine η _ ?_; clear η κ)
    (refine zr (by kernel_rfl) fun κ η => ?_; simp only [go_sem, simprocAttr, hks, Ky.ok, hm902, w1, w2, w3, w4, w1', w2', w3', w4']; (repeat refine ⟨by omega, ?_⟩); refine η _ ?_; clear η κ)
    repeat' first | refine zf rfl fun K E hK hE => ?_ | (refine za fun κ η => ?_; simp only [go_sem, simprocAttr, hb900, hl903, hlg, hls, w1, w2, w3, w4, w1', w2', w3', w4']; (repeat refine ⟨by omega, ?_⟩); refine η _ ?_; clear η κ) | (refine zd (hK _ ?_); clear hE hK E K) | apply zb | (refine zH (hK _ ?_); clear hE hK E K) | apply zq | apply zs
    refine ⟨(gat gts k).ins.length - (p + 1), by omega, p + 1, rfl, by omega, _, _, _, _, zp rfl ⟨rfl, rfl, rfl, rfl, rfl, rfl, rfl, rfl, rfl, rfl, trivial⟩ trivial, ?_, LnS.add hS hu hj hky ((G0 (wid j)).gen + 1) (by rw [za7]; simp [zae, w1, w2, w3, w4, w4']) (by rw [za7]; simp [zae, w1, w2, w3, w4, w5']) (by rw [za7]; simp [zae, w1', w2', w3', w4']) (by rw [za7]; simp [zae, w1', w2', w3', w4']) ?_ (hjx ▸ ziq hx hn) (fun i hi hij => (zdX hx hn).2 _ fun e => hij (hu i j hi hj (e.trans hjx.symm))) (fun i hij => zaY (by simp [wid]; omega)), hF.trans (zcB (by simp [zaH]; have := zcx j; omega))⟩
    ·rw [za7]
     simp [zae, w6', hq]
    ·simp only [hjx, (zdX hx hn).1, zdz]
     rw [za7]
     simp [zae, w1, w2, w3, hW, iR]
   ·rw [if_neg hW] at hent
    replace hrw := hrw hW
    repeat' first | apply zg | apply zj | refine zf rfl fun K E hK hE => ?_ | refine zG rfl (by kernel_rfl) fun K E hK hE => ?_ | ((first | refine za fun κ η => ?_ | refine zr (by kernel_rfl) fun κ η => ?_); simp only [go_sem, simprocAttr, hxs, hq, hks, Ky.ok, hget, hb900, hm902]; (repeat refine ⟨by omega, ?_⟩); refine η _ ?_; clear η κ) | (refine zd (hK _ ?_); clear hE hK E K) | apply zb | refine zh true rfl (fun _ => ?_) (fun h => (by cases h)) | apply zi
    (refine zr (by kernel_rfl) fun κ η => ?_; simp only [go_sem, simprocAttr, hks, Ky.ok, hm902, hent]; (repeat refine ⟨by omega, ?_⟩); refine η _ ?_; clear η κ)
    (refine zr (by kernel_rfl) fun κ η => ?_; simp only [go_sem, simprocAttr]; (repeat refine ⟨by omega, ?_⟩); refine η _ ?_; clear η κ)
    (refine zr (by kernel_rfl) fun κ η => ?_; simp only [go_sem, simprocAttr]; (repeat refine ⟨by omega, ?_⟩); refine η _ ?_; clear η κ)
    (refine zr (by kernel_rfl) fun κ η => ?_; simp only [go_sem, simprocAttr, hrw, w1, w2, w3, w4]; (repeat refine ⟨by omega, ?_⟩); refine η _ ?_; clear η κ)
    (refine zr (by kernel_rfl) fun κ η => ?_; simp only [go_sem, simprocAttr, hks, Ky.ok, hm902, hrw, w1, w2, w3, w4, w1', w2', w3', w4']; (repeat refine ⟨by omega, ?_⟩); refine η _ ?_; clear η κ)
    repeat' first | refine zf rfl fun K E hK hE => ?_ | (refine za fun κ η => ?_; simp only [go_sem, simprocAttr, hb900, hl903, hlg, hls, w1, w2, w3, w4, w1', w2', w3', w4']; (repeat refine ⟨by omega, ?_⟩); refine η _ ?_; clear η κ) | (refine zd (hK _ ?_); clear hE hK E K) | apply zb | (refine zH (hK _ ?_); clear hE hK E K) | apply zq | apply zs
    refine ⟨(gat gts k).ins.length - (p + 1), by omega, p + 1, rfl, by omega, _, _, _, _, zp rfl ⟨rfl, rfl, rfl, rfl, rfl, rfl, rfl, rfl, rfl, rfl, trivial⟩ trivial, ?_, LnS.add hS hu hj hky (hg j + 1) (by rw [za7]; simp [zae, w1, w2, w3, w4, w4']) (by rw [za7]; simp [zae, w1, w2, w3, w4, w5']) (by rw [za7]; simp [zae, w1', w2', w3', w4']) (by rw [za7]; simp [zae, w1', w2', w3', w4']) ?_ (hjx ▸ ziq hx hn) (fun i hi hij => (zdX hx hn).2 _ fun e => hij (hu i j hi hj (e.trans hjx.symm))) (fun i hij => zaY (by simp [wid]; omega)), hF.trans (zcB (by simp [zaH]; have := zcx j; omega))⟩
    ·rw [za7]
     simp [zae, w6', hq]
    ·simp only [hjx, (zdX hx hn).1, zdz]
     rw [za7]
     simp [zae, w1, w2, w3, iR, iR]
 ·simp only [decide_eq_false_iff_not] at hc
  obtain ⟨p, hpe, rfl⟩ : ∃ p', p' = (gat gts k).ins.length ∧ p' = p := ⟨_, rfl, by omega⟩
  have hlg := zeM (lk := lkI gts k p) hkl
  have hl903 := hS.l
  obtain ⟨y, hb900, _⟩ := id hS.b
  have hsame := zl5 gts k p (by omega)
  have hwsame := zl6 gts k p (by omega)
  have hnext : ∀ j, j < k → lkI gts (k + 1) 0 j = lkI gts k 0 j := fun j hj => by
   rw [hsame]
   unfold lkI
   rw [if_pos hj, if_pos hj]
  have hrl := hR.len
  by_cases hz : lkI gts k p k = 0
  ·have hz' : ((lkI gts k p k : Int) = 0) = True := eq_true (by omega)
   repeat' first | apply zg | refine zf rfl fun K E hK hE => ?_ | (refine za fun κ η => ?_; simp only [go_sem, simprocAttr, hb900, hl903, hlg, hz']; (repeat refine ⟨by omega, ?_⟩); refine η _ ?_; clear η κ) | (refine zd (hK _ ?_); clear hE hK E K) | apply zb | refine zh true rfl (fun _ => ?_) (fun h => (by cases h)) | apply zt | apply zu | apply zw | apply zx
   (refine zaj fun κ η => ?_; simp only [go_sem, simprocAttr]; refine ⟨⟨_, Tryz.underlying123⟩, ?_⟩; refine η _ ?_; clear η κ)
   repeat' (refine za fun κ η => ?_; simp only [go_sem, simprocAttr]; refine η _ ?_; clear η κ)
   refine zaj fun κ η => ?_; simp only [go_sem, simprocAttr]; refine ⟨_, zlm Hy hS (by omega) hH k, ?_⟩; rintro _ o2 ⟨rfl, r', a, b, c, d⟩; simp only [go_sem, simprocAttr]; refine η _ ?_; clear η κ
   repeat' first | refine zf rfl fun K E hK hE => ?_ | (refine za fun κ η => ?_; simp only [go_sem, simprocAttr]; (repeat refine ⟨by omega, ?_⟩); refine η _ ?_; clear η κ) | (refine zd (hK _ ?_); clear hE hK E K) | apply zb | apply zq | apply zs
   refine ⟨gts.length - (k + 1), by omega, k + 1, rfl, by omega, _, _, q1, gb, gm, gl, E, hg, r', zp rfl ⟨rfl, rfl, rfl, rfl, rfl, rfl, trivial⟩ trivial, (d 6106 (by decide) (by decide) (by decide)).trans hq, ?_, a, hR.growPush hnext (by rw [hsame]; exact hz) rfl b, hF.trans d.toL⟩
   rw [hsame, hwsame]
   exact c
  ·have hz' : ((lkI gts k p k : Int) = 0) = False := eq_false (by omega)
   repeat' first | apply zg | refine zf rfl fun K E hK hE => ?_ | (refine za fun κ η => ?_; simp only [go_sem, simprocAttr, hb900, hl903, hlg, hz']; (repeat refine ⟨by omega, ?_⟩); refine η _ ?_; clear η κ) | (refine zd (hK _ ?_); clear hE hK E K) | apply zb | refine zh false rfl (fun h => (by cases h)) fun _ => ?_ | apply zq | apply zi | apply zt | apply zu | apply zw | apply zx | apply zs
   refine ⟨gts.length - (k + 1), by omega, k + 1, rfl, by omega, _, _, q1, gb, gm, gl, E, hg, r, zp rfl ⟨rfl, rfl, rfl, rfl, rfl, rfl, trivial⟩ trivial, hq, ?_, hH, hR.grow hnext (by rw [hsame]; exact hz), hF⟩
   rw [hsame, hwsame]
   exact hS
end Go.Proofs.YtbhoeanfnbkenaaGreatDoor
