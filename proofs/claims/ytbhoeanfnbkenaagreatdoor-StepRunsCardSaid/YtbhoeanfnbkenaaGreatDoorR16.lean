import Derived.Test.YtbhoeanfnbkenaaGreatDoorR15
namespace Go.Proofs.YtbhoeanfnbkenaaGreatDoor
open Go.RowKit Go.WideMaps
set_option maxRecDepth 100000
set_option linter.unusedSimpArgs false
variable (Hy : World → Prop)
attribute [local irreducible] zU zY cwp z1 z6 lpQ z8 asQ bdQ bdY zab zac zad zaa
structure LnR (o : Nat → O) (gs : List Gt) (gb gm gl : Nat) (E : List (Ky × A)) (lk : Nat → Nat) (W : Nat → List Int) (hg : Nat → Nat) (r : List Int) : Prop where
 s : LnS o gs gb gm gl E lk W hg r
 h : HpS o gb [.row 902 gm, .row 903 gl] r
theorem LnR.fr {o o' : Nat → O} {gs : List Gt} {gb gm gl : Nat} {E : List (Ky × A)} {lk : Nat → Nat} {W : Nat → List Int} {hg : Nat → Nat} {r : List Int} (h : LnR o gs gb gm gl E lk W hg r) (hf : ∀ i, (900 ≤ i ∧ i < 904) ∨ 10000 ≤ i → o' i = o i) : LnR o' gs gb gm gl E lk W hg r := by
 refine ⟨h.s.fr hf, ?_⟩
 obtain ⟨gh, h1, h2⟩ := h.h.ex
 exact ⟨⟨gh, by rw [hf _ (.inl ⟨by decide, by decide⟩)]; exact h1, by rw [hf _ (.inl ⟨by decide, by decide⟩)]; exact h2⟩⟩
theorem LnR.heap {o o' : Nat → O} {gs : List Gt} {gb gm gl : Nat} {E : List (Ky × A)} {lk : Nat → Nat} {W : Nat → List Int} {hg : Nat → Nat} {r r' : List Int} (h : LnR o gs gb gm gl E lk W hg r) (hp : HpS o' gb [.row 902 gm, .row 903 gl] r') (hf : FrH o o') : LnR o' gs gb gm gl E lk W hg r' := ⟨h.s.heap hp hf, hp⟩
theorem LnR.lks {o o' : Nat → O} {gs : List Gt} {gb gm gl : Nat} {E : List (Ky × A)} {lk lk' : Nat → Nat} {W : Nat → List Int} {hg : Nat → Nat} {r : List Int} (h : LnR o gs gb gm gl E lk W hg r) (h3 : o' 903 = ⟨gl, .row 3 1 (iR (za9 gs.length lk'))⟩) (hr : ∀ i, i ≠ 903 → o' i = o i) : LnR o' gs gb gm gl E lk' W hg r := by
 obtain ⟨gh, h1, h2⟩ := h.h.ex
 have k1 : o' 900 = o 900 := hr _ (by decide)
 have k2 : o' 901 = o 901 := hr _ (by decide)
 refine ⟨⟨by rw [k1, k2]; exact h.s.b, by rw [hr _ (by decide)]; exact h.s.m, h3, h.s.no, h.s.ent, fun i hi hw => ?_⟩, ⟨⟨gh, k1.trans h1, k2.trans h2⟩⟩⟩
 rw [hr _ (by have := zcx i; omega)]
 exact h.s.row i hi hw
theorem ziH (E : List (Ky × A)) (k k' : Ky) : zam (zbt E k) k' = if k' = k then none else zam E k' := by
 unfold zam zbt
 rw [List.find?_filter]
 by_cases e : k' = k
 ·subst e
  rw [if_pos rfl, List.find?_eq_none.2]
  ·rfl
  ·intro p _ hp
   simp at hp
 ·rw [if_neg e]
  congr 1
  congr 1
  funext p
  by_cases e2 : p.1 = k'
  ·simp [e2, e]
  ·simp [e2]
theorem LnR.del {o o' : Nat → O} {gs : List Gt} {gb gm gl : Nat} {E : List (Ky × A)} {lk : Nat → Nat} {W : Nat → List Int} {hg : Nat → Nat} {r : List Int} (h : LnR o gs gb gm gl E lk W hg r) (hu : zb2 gs) {k : Nat} (hk : k < gs.length) (h2 : o' 902 = ⟨gm, .map .str (zbt E (nmA gs k))⟩) (hr : ∀ i, i ≠ 902 → o' i = o i) : LnR o' gs gb gm gl (zbt E (nmA gs k)) lk (fun i => if i = k then [] else W i) hg r := by
 obtain ⟨gh, h1, h3⟩ := h.h.ex
 have k1 : o' 900 = o 900 := hr _ (by decide)
 have k2 : o' 901 = o 901 := hr _ (by decide)
 refine ⟨⟨by rw [k1, k2]; exact h.s.b, h2, by rw [hr _ (by decide)]; exact h.s.l, fun s hs => ?_, fun i hi => ?_, fun i hi hw => ?_⟩, ⟨⟨gh, k1.trans h1, k2.trans h3⟩⟩⟩
 ·rw [ziH]
  split
  ·rfl
  ·exact h.s.no s hs
 ·rw [ziH]
  by_cases e : i = k
  ·subst e
   rw [if_pos rfl, if_pos rfl, if_pos rfl]
  ·rw [if_neg (fun e2 => e (hu i k hi hk (by unfold nmA at e2; injection e2))), if_neg e]
   exact h.s.ent i hi
 ·by_cases e : i = k
  ·subst e
   rw [if_pos rfl] at hw
   exact absurd rfl hw
  ·rw [if_neg e] at hw ⊢
   rw [hr _ (by have := zcx i; omega)]
   exact h.s.row i hi hw
theorem zmz (c : Ci) (hc : COk c) (o : Nat → O) : Cm Tryz.prog Hy 90 [.ag (cA c)] o fun rs o' => ∃ gb, rs = [.ptr 900 gb 0] ∧ ∃ gm gl E hg r, LnR o' c.gts gb gm gl E (lkI c.gts c.gts.length 0) (fun i => wtI c.gts c.gts.length 0 (gat c.gts i).name) hg r ∧ zaC r r.length ∧ Ready c.gts.length zaq (lkI c.gts c.gts.length 0) r ∧ FrL o o' := by
 refine Cm.optCell (zmj Hy c hc o) ?_
 rintro rs o' ⟨gb, rfl, gm, gl, E, hg, r, hS, hH, hR, hF⟩
 obtain ⟨y, h1, h2⟩ := id hS.b
 rcases h2 with ⟨rfl, rfl⟩ | ⟨gh, rfl, h2⟩
 ·refine .inr ⟨900, 0, 901, (o' 901).gen + 1, 1, 3, 120, _, by rw [h1], rfl, by decide, Nat.lt_succ_self _, gb, rfl, gm, gl, E, hg, [], ?_, hH, hR, fun i hi => ?_⟩
  ·have hp : HpS (obx (obx o' 901 ⟨(o' 901).gen + 1, .row 3 1 []⟩) 900 ⟨(o' 900).gen, .cells 120 [.row 901 ((o' 901).gen + 1), .row 902 gm, .row 903 gl]⟩) gb [.row 902 gm, .row 903 gl] [] := ⟨⟨_, by rw [h1]; rfl, rfl⟩⟩
   have hf : FrH o' (obx (obx o' 901 ⟨(o' 901).gen + 1, .row 3 1 []⟩) 900 ⟨(o' 900).gen, .cells 120 [.row 901 ((o' 901).gen + 1), .row 902 gm, .row 903 gl]⟩) := fun i k1 k2 _ => by
    unfold obx
    rw [if_neg k1, if_neg k2]
   exact ⟨hS.heap hp hf, hp⟩
  ·have h900 : i ≠ 900 := fun e => hi (.inl (by omega))
   have h901 : i ≠ 901 := fun e => hi (.inl (by omega))
   unfold obx
   rw [if_neg h900, if_neg h901]
   exact hF i hi
 ·exact .inl ⟨gb, rfl, gm, gl, E, hg, r, ⟨hS, ⟨⟨gh, h1, h2⟩⟩⟩, hH, hR, hF⟩
def lkP (lk : Nat → Nat) (L : List Nat) (p : Nat) : Nat → Nat := fun i => lk i - (L.take p).count i
theorem zmA {lk : Nat → Nat} {L : List Nat} {p x : Nat} (hx : L[p]? = some x) (hc : L.count x ≤ lk x) : (∀ j, j ≠ x → lkP lk L (p + 1) j = lkP lk L p j) ∧ lkP lk L p x = lkP lk L (p + 1) x + 1 := by
 have ht : L.take (p + 1) = L.take p ++ [x] := by rw [List.take_add_one, hx]; rfl
 refine ⟨fun j hj => ?_, ?_⟩
 ·unfold lkP
  rw [ht, List.count_append, List.count_singleton, if_neg (by simpa using fun e => hj e.symm)]
  rfl
 ·have h1 : (L.take (p + 1)).count x ≤ L.count x := (List.take_sublist (p + 1) L).count_le x
  unfold lkP
  rw [ht, List.count_append, List.count_singleton, if_pos (by simp)] at *
  omega
theorem zfS {L : List Nat} {p x : Nat} (h : L[p]? = some x) : (iR (zaf L))[p]? = some [.i .i64 x] := zcr (by unfold zaf; rw [List.getElem?_map, h]; rfl)
theorem zd0 (L : List Nat) : (zaf L).length = L.length := List.length_map _
attribute [go_sem] zd0
set_option maxHeartbeats 4000000 in
theorem zmB {o : Nat → O} {gs : List Gt} {gb gm gl : Nat} {E : List (Ky × A)} {lk : Nat → Nat} {W : Nat → List Int} {hg : Nat → Nat} {r : List Int} {gone : Nat → Bool} (hu : zb2 gs) (hn : gs.length ≤ 200) (hsz : ∀ g ∈ gs, g.name.size ≤ 1000000) (h : LnR o gs gb gm gl E lk W hg r) (hH : zaC r r.length) (hR : Ready gs.length gone lk r) {k : Nat} (hk : k < gs.length) {L : List Nat} (hW : W k = zaf L) (hL : ∀ i ∈ L, i < gs.length ∧ gone i = false ∧ L.count i ≤ lk i) (hlk : ∀ i, i < gs.length → lk i ≤ 8) (hLl : L.length ≤ 100000) :
  Cm Tryz.prog Hy 93 [.ptr 900 gb 0, .t (.s (gat gs k).name)] o fun rs o' => rs = [] ∧ ∃ r', LnR o' gs gb gm gl (zbt E (nmA gs k)) (lkP lk L L.length) (fun i => if i = k then [] else W i) hg r' ∧ zaC r' r'.length ∧ Ready gs.length gone (lkP lk L L.length) r' ∧ FrL o o' := by
 have hM := zhR
 have hks : zaS tt 9 = .str := rfl
 have hns := hsz _ (zcd hk)
 have hent := h.s.ent k hk
 have hm902 := h.s.m
 obtain ⟨gh, hb900, hb901⟩ := h.h.ex
 by_cases hE : L = []
 ·subst hE
  rw [hW] at hent
  replace hent : zam E (.s (gat gs k).name) = none := hent
  have hdel : zbt E (.s (gat gs k).name) = zbt E (nmA gs k) := rfl
  refine zax (cls := _root_.id) zB zD Tryz.func93 rfl (by decide) (Nat.le_of_ble_eq_true rfl) ?_
  rw [show Tryz.f93.ntmps = 47 from rfl, zC]
  simp only [List.zipIdx_cons, List.zipIdx_nil, List.map_cons, List.map_nil, Nat.reduceAdd]
  repeat' first | apply zg | apply zj | refine zf rfl fun K E hK hE => ?_ | (refine za fun κ η => ?_; simp only [go_sem, simprocAttr, hks, Ky.ok, hb900, hm902, hent]; (repeat refine ⟨by omega, ?_⟩); refine η _ ?_; clear η κ) | (refine zd (hK _ ?_); clear hE hK E K) | apply zb
  refine zW (fun m s' => m = 0 ∧ ∃ F, s' = nf 47 F o [(0, .ptr 900 gb 0), (1, .t (.s (gat gs k).name)), (12, .t (.i .i64 0)), (13, .t (.i .i64 0))] []) 0 ?_ ?_
  ·exact ⟨rfl, _, zp rfl ⟨rfl, rfl, rfl, rfl, trivial⟩ trivial⟩
  rintro m s' ⟨rfl, F, rfl⟩
  repeat' first | apply zg | refine zf rfl fun K E hK hE => ?_ | (refine za fun κ η => ?_; simp only [go_sem, simprocAttr, hks, Ky.ok, hb900, hm902]; (repeat refine ⟨by omega, ?_⟩); refine η _ ?_; clear η κ) | (refine zd (hK _ ?_); clear hE hK E K) | apply zb | refine zh false rfl (fun h => (by cases h)) fun _ => ?_ | apply zt | apply zu | apply zw | apply zx | (apply zQ; apply zP; simp only [go_sem, simprocAttr, hks, Ky.ok, hb900, hm902])
  exact ⟨r, LnR.del h hu hk rfl (fun i hi => zaY (by simp; omega)), hH, hR, zcB (by simp [zaH])⟩
 ·rw [hW, if_neg (by unfold zaf; simpa using hE)] at hent
  replace hent : zam E (.s (gat gs k).name) = some (.row (wid k) (hg k)) := hent
  have hrow := h.s.row k hk (by rw [hW]; unfold zaf; simpa using hE)
  rw [hW] at hrow
  refine zax (cls := _root_.id) zB zD Tryz.func93 rfl (by decide) (Nat.le_of_ble_eq_true rfl) ?_
  rw [show Tryz.f93.ntmps = 47 from rfl, zC]
  simp only [List.zipIdx_cons, List.zipIdx_nil, List.map_cons, List.map_nil, Nat.reduceAdd]
  repeat' first | apply zg | apply zj | refine zf rfl fun K E hK hE => ?_ | (refine za fun κ η => ?_; simp only [go_sem, simprocAttr, hks, Ky.ok, hb900, hm902, hent, hrow]; (repeat refine ⟨by omega, ?_⟩); refine η _ ?_; clear η κ) | (refine zd (hK _ ?_); clear hE hK E K) | apply zb
  refine zW (fun m s' => ∃ p : Nat, m = L.length - p ∧ p ≤ L.length ∧ ∃ F G0 r', s' = nf 47 F G0 [(0, .ptr 900 gb 0), (1, .t (.s (gat gs k).name)), (11, .row (wid k) (hg k)), (12, .t (.i .i64 L.length)), (13, .t (.i .i64 p))] [] ∧ LnR G0 gs gb gm gl E (lkP lk L p) W hg r' ∧ zaC r' r'.length ∧ Ready gs.length gone (lkP lk L p) r' ∧ FrL o G0) L.length ?_ ?_
  ·exact ⟨0, by omega, by omega, _, _, r, zp rfl ⟨rfl, rfl, rfl, rfl, rfl, trivial⟩ trivial, h, hH, hR, FrL.refl _⟩
  clear hm902 hb900 hb901 hrow h hH hR gh r
  rintro m s' ⟨p, rfl, hp, F, G0, r, rfl, h, hH, hR, hF⟩
  have hm902 := h.s.m
  have hl903 := h.s.l
  obtain ⟨gh, hb900, hb901⟩ := h.h.ex
  have hrow := h.s.row k hk (by rw [hW]; unfold zaf; simpa using hE)
  rw [hW] at hrow
  have hrl := hR.len
  repeat' first | apply zg | refine zf rfl fun K E hK hE => ?_ | (refine za fun κ η => ?_; simp only [go_sem, simprocAttr]; refine η _ ?_; clear η κ) | (refine zd (hK _ ?_); clear hE hK E K) | apply zb
  refine zh _ rfl (fun hq => ?_) (fun hq => ?_)
  ·simp only [decide_eq_true_eq] at hq
   obtain ⟨x, hx⟩ : ∃ x, L[p]? = some x := ⟨_, List.getElem?_eq_getElem (by omega)⟩
   have hx' := zfS hx
   obtain ⟨hxn, hxg, hxc⟩ := hL x (List.mem_of_getElem? hx)
   obtain ⟨s1, s2⟩ := zmA hx hxc
   have hle : lkP lk L p x ≤ 8 := Nat.le_trans (Nat.sub_le _ _) (hlk x hxn)
   have hlg := zeM (lk := lkP lk L p) hxn
   have hlg2 := zeM (lk := lkP lk L (p + 1)) hxn
   have hls := zio (N := gs.length) hxn s1 (x := (lkP lk L p x : Int) - 1) (by rw [s2]; omega)
   by_cases hz : lkP lk L (p + 1) x = 0
   ·have hz' : ((lkP lk L (p + 1) x : Int) = 0) = True := eq_true (by omega)
    repeat' first | apply zg | apply zj | refine zf rfl fun K E hK hE => ?_ | (refine za fun κ η => ?_; simp only [go_sem, simprocAttr, hrow, hx', hb900, hl903, hlg, hls, hlg2, hz']; (repeat refine ⟨by omega, ?_⟩); refine η _ ?_; clear η κ) | (refine zd (hK _ ?_); clear hE hK E K) | apply zb | refine zh true rfl (fun _ => ?_) (fun h => (by cases h)) | apply zi
    (refine zaj fun κ η => ?_; simp only [go_sem, simprocAttr]; refine ⟨⟨_, Tryz.underlying123⟩, ?_⟩; refine η _ ?_; clear η κ)
    repeat' (refine za fun κ η => ?_; simp only [go_sem, simprocAttr]; refine η _ ?_; clear η κ)
    refine zaj fun κ η => ?_; simp only [go_sem, simprocAttr]; refine ⟨_, ze8 Hy (by exact (LnR.lks h rfl (fun i hi => zaY (by simp; omega))).h) (by omega) hH x, ?_⟩; rintro _ o2 ⟨rfl, r', a, b, c, d⟩; simp only [go_sem, simprocAttr]; refine η _ ?_; clear η κ
    repeat' first | refine zf rfl fun K E hK hE => ?_ | (refine za fun κ η => ?_; simp only [go_sem, simprocAttr]; (repeat refine ⟨by omega, ?_⟩); refine η _ ?_; clear η κ) | (refine zd (hK _ ?_); clear hE hK E K) | apply zb | apply zq | apply zs
    refine ⟨L.length - (p + 1), by omega, p + 1, rfl, by omega, _, _, r', zp rfl ⟨rfl, rfl, rfl, rfl, rfl, trivial⟩ trivial, LnR.heap (LnR.lks h rfl (fun i hi => zaY (by simp; omega))) c d, a, hR.push s1 (by omega) hz hxn hxg b, hF.trans (FrL.trans (zcB (by simp [zaH])) d.toL)⟩
   ·have hz' : ((lkP lk L (p + 1) x : Int) = 0) = False := eq_false (by omega)
    repeat' first | apply zg | apply zj | refine zf rfl fun K E hK hE => ?_ | (refine za fun κ η => ?_; simp only [go_sem, simprocAttr, hrow, hx', hb900, hl903, hlg, hls, hlg2, hz']; (repeat refine ⟨by omega, ?_⟩); refine η _ ?_; clear η κ) | (refine zd (hK _ ?_); clear hE hK E K) | apply zb | refine zh false rfl (fun h => (by cases h)) fun _ => ?_ | apply zq | apply zi | apply zs
    refine ⟨L.length - (p + 1), by omega, p + 1, rfl, by omega, _, _, r, zp rfl ⟨rfl, rfl, rfl, rfl, rfl, trivial⟩ trivial, LnR.lks h rfl (fun i hi => zaY (by simp; omega)), hH, hR.less s1 (by omega) hz, hF.trans (zcB (by simp [zaH]))⟩
  ·simp only [decide_eq_false_iff_not] at hq
   obtain rfl : p = L.length := by omega
   repeat' first | refine zf rfl fun K E hK hE => ?_ | (refine za fun κ η => ?_; simp only [go_sem, simprocAttr, hks, Ky.ok, hb900, hm902]; (repeat refine ⟨by omega, ?_⟩); refine η _ ?_; clear η κ) | (refine zd (hK _ ?_); clear hE hK E K) | apply zb | apply zt | apply zu | apply zw | apply zx | (apply zQ; apply zP; simp only [go_sem, simprocAttr, hks, Ky.ok, hb900, hm902])
   exact ⟨r, LnR.del h hu hk rfl (fun i hi => zaY (by simp; omega)), hH, hR, hF.trans (zcB (by simp [zaH]))⟩
end Go.Proofs.YtbhoeanfnbkenaaGreatDoor
namespace Go.Proofs.YtbhoeanfnbkenaaGreatDoor
open Go.RowKit Go.WideMaps
set_option maxRecDepth 100000
set_option linter.unusedSimpArgs false
variable (Hy : World → Prop)
attribute [local irreducible] zU zY cwp z1 z6 lpQ z8 asQ bdQ bdY zab zac zad zaa
theorem LnR.congr {o : Nat → O} {gs : List Gt} {gb gm gl : Nat} {E : List (Ky × A)} {lk lk' : Nat → Nat} {W : Nat → List Int} {hg : Nat → Nat} {r : List Int} (h : LnR o gs gb gm gl E lk W hg r) (he : ∀ i, i < gs.length → lk' i = lk i) : LnR o gs gb gm gl E lk' W hg r := by
 have e : za9 gs.length lk' = za9 gs.length lk := by
  unfold za9
  exact List.map_congr_left fun i hi => by rw [he i (List.mem_range.1 hi)]
 exact ⟨⟨h.s.b, h.s.m, by rw [e]; exact h.s.l, h.s.no, h.s.ent, h.s.row⟩, h.h⟩
def zal (pre : List Nat) : Nat → Bool := fun x => decide (x ∈ pre)
theorem zeO : zal [] = zaq := funext fun x => by simp [zal, zaq]
theorem zdn (pre : List Nat) (k : Nat) : updB (zal pre) k = zal (pre ++ [k]) := funext fun x => by
 unfold updB zal
 rw [Bool.eq_iff_iff]
 simp only [Bool.or_eq_true, decide_eq_true_eq, List.mem_append, List.mem_singleton]
 exact or_comm
theorem zmC {gs : List Gt} {th : Nat → Bool} {i : Nat} (h : ∀ g ∈ gs, g.ins.length ≤ 8) (hi : i < gs.length) : zaG gs th i ≤ 8 := Nat.le_trans (List.length_filter_le _ _) (h _ (zcd hi))
theorem zmD {gs : List Gt} {j : Nat} (hj : j < gs.length) : wtI gs gs.length 0 (gat gs j).name = zaf (za8 gs (gat gs j).name gs.length) := by
 unfold wtI
 rw [if_pos ((zch _ _ _).2 ⟨j, hj, rfl, rfl⟩)]
 simp [cnt]
theorem zfT {gs : List Gt} {th : Nat → Bool} {k : Nat} (hu : zb2 gs) (hk : k < gs.length) (ht : th k = false) {i : Nat} (hi : i < gs.length) : zaG gs (updB th k) i = lkP (zaG gs th) (za8 gs (gat gs k).name gs.length) (za8 gs (gat gs k).name gs.length).length i ∧ (za8 gs (gat gs k).name gs.length).count i ≤ zaG gs th i := by
 have h1 := zih hu hk ht i
 have h2 := zii gs (gat gs k).name i gs.length
 rw [if_pos hi] at h2
 unfold lkP
 rw [List.take_of_length_le (Nat.le_refl _)]
 omega
theorem zmE {gs : List Gt} {th : Nat → Bool} {k : Nat} (hu : zb2 gs) (hk : k < gs.length) (ht : th k = false) (hg : ∀ j, j < gs.length → updB th k j = true → zaG gs th j = 0) {i : Nat} (hi : i ∈ za8 gs (gat gs k).name gs.length) : i < gs.length ∧ updB th k i = false ∧ (za8 gs (gat gs k).name gs.length).count i ≤ zaG gs th i := by
 have h1 := zlZ _ _ _ i hi
 have h2 := (zfT hu hk ht h1).2
 have h3 := List.count_pos_iff.2 hi
 refine ⟨h1, ?_, h2⟩
 cases hc : updB th k i with
 | false => rfl
 | true =>
  have := hg i h1 hc
  omega
theorem zmF {gs : List Gt} {th : Nat → Bool} {k : Nat} (hu : zb2 gs) (hk : k < gs.length) (ht : th k = false) (hg : ∀ j, j < gs.length → updB th k j = true → zaG gs th j = 0) : ∀ j, j < gs.length → updB th k j = true → zaG gs (updB th k) j = 0 := fun j hj hc => by
 have h1 := zih hu hk ht j
 have := hg j hj hc
 omega
def YL (lo : List Nat) (I : Nat → (Nat → O) → Prop) : YC := fun args o Rb => ∃ n k, args = [.t (.i .i64 (k : Nat))] ∧ lo[n]? = some k ∧ I n o ∧ ∀ o2, I (n + 1) o2 → (∀ i, zaH i → o2 i = o i) → Rb o2
structure Way (gs : List Gt) (pre : List Nat) (o : Nat → O) (gb gm gl : Nat) (E : List (Ky × A)) (W : Nat → List Int) (hg : Nat → Nat) (r : List Int) : Prop where
 nd : pre.Nodup
 lt : ∀ x ∈ pre, x < gs.length
 so : (zZ gs).1 = pre ++ (zah gs (gs.length - pre.length) (zal pre)).1
 ln : LnR o gs gb gm gl E (zaG gs (zal pre)) W hg r
 wt : ∀ j, j < gs.length → zal pre j = false → W j = zaf (za8 gs (gat gs j).name gs.length)
 hp : zaC r r.length
 rd : Ready gs.length (zal pre) (zaG gs (zal pre)) r
 gn : ∀ j, j < gs.length → zal pre j = true → zaG gs (zal pre) j = 0
set_option maxHeartbeats 4000000 in
theorem zmG (c : Ci) (hc : COk c) {g : Nat} {I : Nat → (Nat → O) → Prop} (hI : ∀ n o o', I n o → FrL o o' → I n o') (hB : ∀ n o, I n o → o 6011 = ⟨g, .cells 26 (cA c)⟩) {o : Nat → O} (h0 : I 0 o) (lb : Nat) :
  CmY Tryz.prog Hy 89 lb (YL (zZ c.gts).1 I) [.t (.yl lb), .ptr 6011 g 0] o fun rs o' => rs = [] ∧ I (zZ c.gts).1.length o' := by
 have hnl := zmz Hy c hc
 obtain ⟨ins, outs, las, gs⟩ := c
 obtain ⟨_, hn, hi8, hsz, h5, hu⟩ := hc
 simp only at hn hi8 hsz h5 hu hnl hB
 refine zhd (cls := _root_.id) zB zD Tryz.func89 rfl (by decide) (Nat.le_of_ble_eq_true rfl) ?_
 rw [show Tryz.f89.ntmps = 31 from rfl, zC]
 simp only [List.zipIdx_cons, List.zipIdx_nil, List.map_cons, List.map_nil, Nat.reduceAdd]
 have hb := hB _ _ h0
 simp only [cA] at hb hnl hB
 repeat' first | apply zg | refine zf rfl fun K E hK hE => ?_ | (refine za fun κ η => ?_; simp only [go_sem, simprocAttr, hb]; refine η _ ?_; clear η κ)
 refine zaj fun κ η => ?_; simp only [go_sem, simprocAttr]; refine ⟨_, hnl _, ?_⟩; rintro _ o1 ⟨gb, rfl, gm, gl, Em, hg, r, hL, hH, hR, hF⟩; simp only [go_sem, simprocAttr]; refine η _ ?_; clear η κ
 have h1 := hI _ _ _ h0 hF
 have hlk : ∀ i, i < gs.length → zaG gs zaq i = lkI gs gs.length 0 i := fun i hi => by
  unfold lkI
  rw [if_pos hi]
 have hw0 : Way gs [] o1 gb gm gl Em (fun i => wtI gs gs.length 0 (gat gs i).name) hg r := by
  refine ⟨List.nodup_nil, fun x hx => (by cases hx), by rw [zeO]; rfl, by rw [zeO]; exact hL.congr hlk, fun j hj _ => zmD hj, hH, by rw [zeO]; exact hR.congr hlk, fun j _ h => (by simp [zal] at h)⟩
 repeat' first | apply zj | (refine za fun κ η => ?_; simp only [go_sem, simprocAttr]; refine η _ ?_; clear η κ) | (refine zd (hK _ ?_); clear hE hK E K) | apply zb
 refine zW (fun m s' => ∃ pre F G0 gb gm gl E W hg r, m = gs.length - pre.length ∧ s' = nf 31 F G0 [(0, .t (.yl lb)), (1, .ptr 6011 g 0), (3, .ptr 900 gb 0)] [] ∧ Way gs pre G0 gb gm gl E W hg r ∧ I pre.length G0) gs.length ?_ ?_
 ·exact ⟨[], _, _, _, _, _, _, _, _, _, rfl, zp rfl ⟨rfl, rfl, rfl, trivial⟩ trivial, hw0, h1⟩
 clear hw0 hL hH hR hF h1 hb h0
 rintro m s' ⟨pre, F, G0, gb, gm, gl, E, W, hg, r, rfl, rfl, ⟨w1, w2, w3, w4, w5, w6, w7, w8⟩, hi⟩
 have hb := hB _ _ hi
 obtain ⟨gh, h900, h901⟩ := w4.h.ex
 have hrl := w7.len
 repeat' first | apply zg | refine zf rfl fun K E hK hE => ?_ | (refine za fun κ η => ?_; simp only [go_sem, simprocAttr, h900]; (repeat refine ⟨by omega, ?_⟩); refine η _ ?_; clear η κ)
 refine zaj fun κ η => ?_; simp only [go_sem, simprocAttr]; refine ⟨_, ze7 Hy h901, ?_⟩; rintro _ o2 ⟨rfl, rfl⟩; simp only [go_sem, simprocAttr]; refine η _ ?_; clear η κ
 by_cases hr0 : 0 < r.length
 ·have hr0' : ((0 : Int) < r.length) = True := eq_true (by omega)
  obtain ⟨k, e0, hkn, hkt, hkl, hkf⟩ := zmb w7 w6 hr0
  have hknp : k ∉ pre := by simpa [zal] using hkt
  have hnd2 : (pre ++ [k]).Nodup := by
   rw [List.nodup_append]
   exact ⟨w1, by simp, fun a ha b hb e => by
    rw [List.mem_singleton.1 hb] at e
    exact hknp (e ▸ ha)⟩
  have hlt2 : ∀ x ∈ pre ++ [k], x < gs.length := fun x hx => by
   rcases List.mem_append.1 hx with hx | hx
   ·exact w2 x hx
   ·rw [List.mem_singleton.1 hx]; exact hkn
  have hl2 := zin hnd2 hlt2
  rw [List.length_append, List.length_singleton] at hl2
  have hso2 : (zZ gs).1 = (pre ++ [k]) ++ (zah gs (gs.length - (pre ++ [k]).length) (zal (pre ++ [k]))).1 := by
   rw [w3, show gs.length - pre.length = (gs.length - (pre ++ [k]).length) + 1 by rw [List.length_append, List.length_singleton]; omega, zci hkf, zdn, List.append_assoc]
   rfl
  have hat : (zZ gs).1[pre.length]? = some k := by
   rw [hso2, List.append_assoc, List.getElem?_append_right (Nat.le_refl _), Nat.sub_self]
   rfl
  have hgu := zmc hkl w8
  repeat' first | apply zg | apply zj | refine zf rfl fun K E hK hE => ?_ | (refine za fun κ η => ?_; simp only [go_sem, simprocAttr, hr0', h900]; (repeat refine ⟨by omega, ?_⟩); refine η _ ?_; clear η κ) | (refine zd (hK _ ?_); clear hE hK E K) | apply zb | refine zh true rfl (fun _ => ?_) (fun h => (by cases h)) | apply zi
  (refine zaj fun κ η => ?_; simp only [go_sem, simprocAttr]; refine ⟨⟨_, Tryz.underlying123⟩, ?_⟩; refine η _ ?_; clear η κ)
  repeat' (refine za fun κ η => ?_; simp only [go_sem, simprocAttr]; refine η _ ?_; clear η κ)
  refine zaj fun κ η => ?_; simp only [go_sem, simprocAttr]; refine ⟨_, zjM Hy w4.h (by omega) w6 hr0, ?_⟩; rintro _ o3 ⟨rfl, r', p1, p2, p3, p4⟩; simp only [go_sem, simprocAttr]; refine η _ ?_; clear η κ
  rw [e0] at p2 ⊢
  have w7' := w7.pop p2
  have w4' := w4.heap p3 p4
  have hi3 := hI _ _ _ hi p4.toL
  clear h900 h901 w4 w7
  repeat' first | apply zg | refine zf rfl fun K E hK hE => ?_ | (refine za fun κ η => ?_; simp only [go_sem, simprocAttr]; refine η _ ?_; clear η κ) | (refine zd (hK _ ?_); clear hE hK E K) | apply zb
  refine zhk hE fun κ η => ?_; simp only [go_sem, simprocAttr]
  refine ⟨fun o4 => I (pre.length + 1) o4 ∧ ∀ i, zaH i → o4 i = o3 i, ⟨pre.length, k, rfl, hat, hi3, fun o4 q1 q2 => ⟨q1, q2⟩⟩, ?_⟩
  rintro o4 ⟨hi4, hf4⟩
  refine η _ ?_
  clear η κ
  have hb4 := hB _ _ hi4
  have w4'' := w4'.fr (o' := o4) (fun i hi => hf4 i (by unfold zaH; omega))
  have hk' := zaQ (zbU hkn)
  repeat' first | refine zf rfl fun K E hK hE => ?_ | (refine za fun κ η => ?_; simp only [go_sem, simprocAttr, hb4, hk']; (repeat refine ⟨by omega, ?_⟩); refine η _ ?_; clear η κ) | (refine zd (hK _ ?_); clear hE hK E K) | apply zb | refine zh false rfl (fun h => (by cases h)) fun _ => ?_ | apply zi
  refine zaj fun κ η => ?_; simp only [go_sem, simprocAttr]; refine ⟨_, zmB Hy hu hn hsz w4'' p1 w7' hkn (w5 k hkn hkt) (fun i hi => zmE hu hkn hkt hgu hi) (fun i hi => zmC hi8 hi) (Nat.le_trans (zfJ _ hi8 _ (Nat.le_refl _)) (by omega)), ?_⟩; rintro _ o5 ⟨rfl, r5, q1, q2, q3, q4⟩; simp only [go_sem, simprocAttr]; refine η _ ?_; clear η κ
  repeat' first | (refine zd (hK _ ?_); clear hE hK E K) | apply zq | apply zs
  refine ⟨gs.length - (pre ++ [k]).length, by rw [List.length_append, List.length_singleton]; omega, pre ++ [k], _, _, gb, gm, gl, zbt E (nmA gs k), fun i => if i = k then [] else W i, hg, r5, rfl, zp rfl ⟨rfl, rfl, rfl, trivial⟩ trivial, ⟨hnd2, hlt2, hso2, ?_, ?_, q2, ?_, ?_⟩, ?_⟩
  ·rw [← zdn]
   exact q1.congr fun i hi => (zfT hu hkn hkt hi).1
  ·intro j hj hjt
   rw [← zdn] at hjt
   unfold updB at hjt
   simp only [Bool.or_eq_false_iff, decide_eq_false_iff_not] at hjt
   rw [if_neg hjt.1]
   exact w5 j hj hjt.2
  ·rw [← zdn]
   exact q3.congr fun i hi => (zfT hu hkn hkt hi).1
  ·rw [← zdn]
   exact zmF hu hkn hkt hgu
  ·rw [List.length_append, List.length_singleton]
   exact hI _ _ _ hi4 q4
 ·have hr0' : ((0 : Int) < r.length) = False := eq_false (by omega)
  repeat' first | (refine za fun κ η => ?_; simp only [go_sem, simprocAttr, hr0']; refine η _ ?_; clear η κ) | (refine zd (hK _ ?_); clear hE hK E K) | apply zb | refine zh false rfl (fun h => (by cases h)) fun _ => ?_ | apply zt | apply zu | apply zw | apply zx | (apply zQ; apply zP; simp only [go_sem, simprocAttr, hr0'])
  obtain rfl : r = [] := List.eq_nil_of_length_eq_zero (by omega)
  have he := w3
  rw [zdk (zl1 w7), List.append_nil] at he
  rw [he]
  exact hi
end Go.Proofs.YtbhoeanfnbkenaaGreatDoor
