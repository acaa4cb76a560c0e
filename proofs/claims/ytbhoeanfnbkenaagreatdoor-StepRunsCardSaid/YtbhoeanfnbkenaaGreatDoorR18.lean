import Derived.Test.YtbhoeanfnbkenaaGreatDoorR16
import Derived.Test.YtbhoeanfnbkenaaGreatDoorR5
namespace Go.Proofs.YtbhoeanfnbkenaaGreatDoor
open Go.RowKit Go.WideMaps
set_option maxRecDepth 100000
set_option linter.unusedSimpArgs false
variable (Hy : World → Prop)
attribute [local irreducible] zU zY cwp z1 z6 lpQ z8 asQ bdQ bdY zab zac zad zaa
theorem zd7 : ∀ (l pre : List ByteArray), zbu pre l = none → l.Nodup ∧ ∀ x ∈ l, x ∉ pre
 | [], _, _ => ⟨List.nodup_nil, fun x hx => (by cases hx)⟩
 | y :: l, pre, h => by
  unfold zbu at h
  split at h
  ·cases h
  ·rename_i hy
   obtain ⟨h1, h2⟩ := zd7 l _ h
   refine ⟨List.nodup_cons.2 ⟨fun hm => h2 y hm (by simp), h1⟩, fun x hx => ?_⟩
   rcases List.mem_cons.1 hx with rfl | hx
   ·exact hy
   ·exact fun hm => h2 x hx (List.mem_append_left _ hm)
theorem zdv {c : Ci} (h : (zai c).1 = 0) : COk c := by
 have h1 : za4 c = none := by
  cases hl : za4 c with
  | none => rfl
  | some w =>
   have e : w = (8, zba) := by
    unfold za4 at hl
    split at hl
    ·cases hl; rfl
    ·cases hl
   unfold zai zay at h
   rw [hl, e] at h
   exact absurd (show (8 : Int) = 0 from h) (by decide)
 have h2 : zao (zar c) = none := by
  cases hl : zao (zar c) with
  | none => rfl
  | some w =>
   unfold zai zay at h
   rw [h1, hl] at h
   unfold zao at hl
   obtain ⟨s, _, rfl⟩ := Option.map_eq_some_iff.1 hl
   exact absurd (show (4 : Int) = 0 from h) (by decide)
 have h3 : zaL (z2 c) = none := by
  cases hl : zaL (z2 c) with
  | none => rfl
  | some w =>
   unfold zai zay at h
   rw [h1, h2, hl] at h
   unfold zaL at hl
   obtain ⟨s, _, rfl⟩ := Option.map_eq_some_iff.1 hl
   exact absurd (show (5 : Int) = 0 from h) (by decide)
 obtain ⟨⟨l1, l2⟩, l3⟩ := zeP h1
 have hn := zeQ h2
 have hgt : ∀ g ∈ c.gts, ∀ s ∈ gtT g, s.size ≤ 40 := fun g hg s hs => zeR (hn s (by
  unfold zar
  exact List.mem_append_right _ (List.mem_append_right _ (List.mem_append_right _ (List.mem_flatMap.2 ⟨g, hg, hs⟩)))))
 have hnd := (zd7 _ [] (Option.map_eq_none_iff.1 h3)).1
 unfold z2 at hnd
 have hnd2 : (c.gts.map (·.name)).Nodup := ((List.nodup_append.1 (List.nodup_append.1 hnd).2.1)).2.1
 refine ⟨⟨by omega, by omega, by omega, by omega⟩, by omega, fun g hg => (l3 g hg).1, fun g hg => Nat.le_trans (hgt g hg _ List.mem_cons_self) (by decide), fun g hg s hs => Nat.le_trans (hgt g hg _ (List.mem_cons_of_mem _ hs)) (by decide), fun i j hi hj e => ?_⟩
 refine (List.getElem?_inj (by rw [List.length_map]; exact hi) hnd2).1 ?_
 rw [List.getElem?_map, List.getElem?_map, zbU hi, zbU hj, Option.map_some, Option.map_some, e]
theorem zi9 (c : Ci) (o : Nat → O) : Cm Tryz.prog Hy 69 [.ag (cA c)] o fun rs o' => ∃ g, rs = [.fn 89 [] [.ptr 6011 g 0]] ∧ o' 6011 = ⟨g, .cells 26 (cA c)⟩ ∧ Fr [6011] o o' := by
 refine zax (cls := fun d => 6010 + d) zB zD Tryz.func69 rfl (by decide) (Nat.le_of_ble_eq_true rfl) ?_
 rw [show Tryz.f69.ntmps = 4 from rfl, zC]
 simp only [List.zipIdx_cons, List.zipIdx_nil, List.map_cons, List.map_nil, Nat.reduceAdd, cA]
 repeat' first | apply zg | refine zf rfl fun K E hK hE => ?_ | (refine za fun κ η => ?_; simp only [go_sem, simprocAttr]; refine η _ ?_; clear η κ) | (refine zd (hK _ ?_); clear hE hK E K) | apply zb | apply zk | (apply zm; apply zn; simp only [go_sem, simprocAttr])
 exact ⟨_, rfl, rfl, zk4 (by simp)⟩
def bR (N : Nat) (th : Nat → Bool) : List (List T) := (List.range N).map fun i => [.b (th i)]
theorem zja (N : Nat) (th : Nat → Bool) : (bR N th).length = N := by simp [bR]
attribute [go_sem] zja
theorem zdw {N : Nat} {th : Nat → Bool} {i : Nat} (h : i < N) : (bR N th)[i]? = some [.b (th i)] := by
 unfold bR
 rw [List.getElem?_map, List.getElem?_range h]
 rfl
theorem zf8 {N : Nat} {th : Nat → Bool} (i : Nat) : (bR N th).set i [.b true] = bR N (updB th i) := by
 unfold bR
 refine List.ext_getElem (by simp) fun j h1 h2 => ?_
 simp only [List.getElem_set, List.getElem_map, List.getElem_range, updB]
 by_cases e : i = j
 ·subst e; simp
 ·rw [if_neg e, decide_eq_false (fun e2 => e e2.symm), Bool.false_or]
theorem zf9 (N : Nat) : List.replicate N [T.b false] = bR N (zal []) := by
 unfold bR
 refine List.ext_getElem (by simp) fun i h1 h2 => ?_
 simp [zal]
theorem zga {n : Nat} {F : Nat → A} {G : Nat → O} {ts : List (Nat × A)} {os : List (Nat × O)} (h : ∀ p ∈ os.map (·.1), ¬ zaH p) : ∀ i, zaH i → (nf n F G ts os).o i = G i := fun _ hi => zaY fun p hp e => h p hp (e ▸ hi)
theorem zeU (gs : List Gt) (k : Nat) : (zZ gs).2 k = zal (zZ gs).1 k := by
 unfold zZ
 rw [zim]
 rfl
def za6 (gs : List Gt) (k : Nat) : List ByteArray := ((List.range k).filter fun k => !zal (zZ gs).1 k).map fun k => (gat gs k).name
theorem zdx (gs : List Gt) : za6 gs gs.length = za0 gs := by
 unfold za6 za0
 simp only [zeU]
theorem zgb (gs : List Gt) (k : Nat) : za6 gs (k + 1) = za6 gs k ++ if zal (zZ gs).1 k = true then [] else [(gat gs k).name] := by
 unfold za6
 rw [List.range_succ, List.filter_append, List.map_append]
 cases hc : zal (zZ gs).1 k <;> simp [List.filter_cons, hc]
theorem zd8 (gs : List Gt) (k : Nat) : (za6 gs k).length ≤ k := by
 unfold za6
 rw [List.length_map]
 exact Nat.le_trans (List.length_filter_le _ _) (by simp)
theorem zd9 (gs : List Gt) : ∀ (n : Nat) (th : Nat → Bool), (zah gs n th).1.length ≤ n ∧ ∀ x ∈ (zah gs n th).1, x < gs.length
 | 0, _ => ⟨Nat.le_refl _, fun x hx => (by cases hx)⟩
 | n + 1, th => by
  cases h : zaF gs th with
  | none => rw [zah, h]; exact ⟨Nat.zero_le _, fun x hx => (by cases hx)⟩
  | some k =>
   obtain ⟨h1, h2⟩ := zd9 gs n (updB th k)
   rw [zci h]
   have hk := List.mem_range.1 (List.mem_of_find?_eq_some h)
   exact ⟨Nat.succ_le_succ h1, fun x hx => by
    rcases List.mem_cons.1 hx with rfl | hx
    ·exact hk
    ·exact h2 x hx⟩
structure SoI (c : Ci) (g1 g g6 g7 q7 : Nat) (n : Nat) (o : Nat → O) : Prop where
 a : o 1 = ⟨g1, .cells 26 (cA c)⟩
 b : o 6011 = ⟨g, .cells 26 (cA c)⟩
 p : ∃ x, o 6 = ⟨g6, .cells 56 [x]⟩ ∧ Acc o 29 3 1 (iR (zaf ((zZ c.gts).1.take n))) x
 d : o 7 = ⟨g7, .cells 27 [.row 22 q7]⟩
 r : o 22 = ⟨q7, .row 4 1 (bR c.gts.length (zal ((zZ c.gts).1.take n)))⟩
theorem SoI.fr {c : Ci} {g1 g g6 g7 q7 n : Nat} {o o' : Nat → O} (h : SoI c g1 g g6 g7 q7 n o) (hf : FrL o o') : SoI c g1 g g6 g7 q7 n o' := by
 obtain ⟨x, h1, h2⟩ := h.p
 refine ⟨by rw [hf _ (by unfold zaH; omega)]; exact h.a, by rw [hf _ (by unfold zaH; omega)]; exact h.b, ⟨x, by rw [hf _ (by unfold zaH; omega)]; exact h1, ?_⟩, by rw [hf _ (by unfold zaH; omega)]; exact h.d, by rw [hf _ (by unfold zaH; omega)]; exact h.r⟩
 rcases h2 with h2 | ⟨q, e, h2⟩
 ·exact .inl h2
 ·exact .inr ⟨q, e, by rw [hf _ (by unfold zaH; omega)]; exact h2⟩
theorem SoI.up {c : Ci} {g1 g g6 g7 q7 n k : Nat} {o o2 : Nat → O} {xx : A} (hat : (zZ c.gts).1[n]? = some k) (h : SoI c g1 g g6 g7 q7 n o) (h1 : o2 1 = o 1) (hb : o2 6011 = o 6011) (hp : o2 6 = ⟨g6, .cells 56 [xx]⟩) (hx : Acc o2 29 3 1 (iR (zaf ((zZ c.gts).1.take n)) ++ [[.i .i64 k]]) xx) (hd : o2 7 = o 7) (hr : o2 22 = ⟨q7, .row 4 1 (bR c.gts.length (updB (zal ((zZ c.gts).1.take n)) k))⟩) : SoI c g1 g g6 g7 q7 (n + 1) o2 := by
 have e : (zZ c.gts).1.take (n + 1) = (zZ c.gts).1.take n ++ [k] := by rw [List.take_add_one, hat]; rfl
 refine ⟨h1.trans h.a, hb.trans h.b, ⟨xx, hp, ?_⟩, hd.trans h.d, ?_⟩
 ·rw [e]
  unfold zaf at *
  rw [List.map_append, zdz]
  exact hx
 ·rw [e, ← zdn]
  exact hr
def zbD (c : Ci) : List Nat × List ByteArray := if (zai c).1 = 0 then ((zZ c.gts).1, za0 c.gts) else ([], [])
set_option maxHeartbeats 4000000 in
theorem zgc (c : Ci) (hr : CRoom c) (hgo : GOk c.gts) (hlo : LOk c.las) : Ct Tryz.prog Hy 44 [.ag (cE c)] [.sl (iR (zaf (zbD c).1)), .sl (sR (zbD c).2)] := by
 have hck := fun (o : Nat → O) => Cm.of_ct (o := o) (ziR Hy c hr hgo hlo)
 have hco := zi9 Hy c
 by_cases h0 : (zai c).1 = 0
 ·have hc := zdv h0
  have hn := hc.n200
  have hs : zbD c = ((zZ c.gts).1, za0 c.gts) := if_pos h0
  have hit := fun (g : Nat) (I : Nat → (Nat → O) → Prop) hI hB (o : Nat → O) h0 lb => zmG Hy c hc (g := g) (I := I) hI hB (o := o) h0 lb
  have hz := zf9 c.gts.length
  obtain ⟨hsl, hsk⟩ := zd9 c.gts c.gts.length zaq
  rw [hs]
  obtain ⟨ins, outs, las, gts⟩ := c
  have h0' := eq_true h0
  simp only [cE, cA] at hck hco hn hz hsl hsk ⊢
  refine zI (cls := _root_.id) zB zD Tryz.func44 rfl (by decide) (Nat.le_of_ble_eq_true rfl) ?_
  rw [show Tryz.f44.ntmps = 54 from rfl, zC]
  simp only [List.zipIdx_cons, List.zipIdx_nil, List.map_cons, List.map_nil, Nat.reduceAdd, cE]
  repeat' first | apply zg | refine zf rfl fun K E hK hE => ?_ | (refine za fun κ η => ?_; simp only [go_sem, simprocAttr]; refine η _ ?_; clear η κ) | (refine zd (hK _ ?_); clear hE hK E K) | apply zb
  refine zaI fun κ η => ?_; simp only [go_sem, simprocAttr]; refine ⟨_, (hck _), ?_⟩; rintro _ _ ⟨rfl, rfl⟩; simp only [go_sem, simprocAttr]; refine η _ ?_; clear η κ
  repeat' first | apply zg | refine zf rfl fun K E hK hE => ?_ | (refine za fun κ η => ?_; simp only [go_sem, simprocAttr, h0', hz]; (repeat refine ⟨by omega, ?_⟩); refine η _ ?_; clear η κ) | (refine zd (hK _ ?_); clear hE hK E K) | apply zb | refine zh false rfl (fun h => (by cases h)) fun _ => ?_ | apply zi
  refine zaj fun κ η => ?_; simp only [go_sem, simprocAttr]; refine ⟨_, hco _, ?_⟩; rintro _ o2 ⟨g, rfl, h6, hF⟩; simp only [go_sem, simprocAttr]; refine η _ ?_; clear η κ
  repeat' first | apply zj | (refine zd (hK _ ?_); clear hE hK E K) | apply zb
  refine zhm (YL (zZ gts).1 (SoI ⟨ins, outs, las, gts⟩ 1 g 1 1 1)) _ rfl (fun lb => hit g (SoI ⟨ins, outs, las, gts⟩ 1 g 1 1 1) (fun n o o' => SoI.fr) (fun n o h => h.b) _ ?_ lb) (fun args o1 Rb hy => ?_) (fun rs o' hr => ?_)
  ·exact ⟨(hF 1 (by simp)).trans rfl, h6, ⟨.nilS, (hF 6 (by simp)).trans rfl, .inl ⟨rfl, rfl⟩⟩, (hF 7 (by simp)).trans rfl, (hF 22 (by simp)).trans rfl⟩
  ·obtain ⟨n, k, rfl, hat, hi, hRb⟩ := hy
   refine ⟨rfl, ?_⟩
   have hkm : k < gts.length := hsk k (List.mem_of_getElem? hat)
   have hnl : n < (zZ gts).1.length := (List.getElem?_eq_some_iff.1 hat).1
   have hnl2 : (zZ gts).1.length ≤ gts.length := hsl
   have hup := fun (o2 : Nat → O) (xx : A) => SoI.up (o2 := o2) (xx := xx) (c := ⟨ins, outs, las, gts⟩) hat hi
   obtain ⟨x, h6c, hx⟩ := hi.p
   have h7 := hi.d
   have h22 := hi.r
   have hset := zf8 (N := gts.length) (th := zal ((zZ gts).1.take n)) k
   have hbg := zdw (th := zal ((zZ gts).1.take n)) hkm
   have hlen : (iR (zaf ((zZ gts).1.take n))).length ≤ 1000000 := by
    rw [ze5, zd0, List.length_take]
    omega
   simp only at h22 hx hup
   generalize iR (zaf ((zZ gts).1.take n)) = rw0 at hup hx hlen
   simp only [go_sem]
   repeat' first | refine zf rfl fun K E hK hE => ?_ | (refine za fun κ η => ?_; simp only [go_sem, simprocAttr]; refine η _ ?_; clear η κ) | (refine zd (hK _ ?_); clear hE hK E K)
   refine zhl ?_
   rcases hx with ⟨rfl, rfl⟩ | ⟨q, rfl, hr2⟩
   ·repeat' first | apply zg | apply zj | refine zf rfl fun K E hK hE => ?_ | (refine za fun κ η => ?_; simp only [go_sem, simprocAttr, h6c, h7, h22, hbg, hset]; (repeat refine ⟨by omega, ?_⟩); refine η _ ?_; clear η κ) | (refine zd (hK _ ?_); clear hE hK E K) | apply zb | apply zq
    refine zel (hRb _ ?_ ?_)
    ·exact hup _ _ rfl rfl rfl (.inr ⟨_, rfl, rfl⟩) rfl rfl
    ·exact zga (by simp [zaH])
   ·repeat' first | apply zg | apply zj | refine zf rfl fun K E hK hE => ?_ | (refine za fun κ η => ?_; simp only [go_sem, simprocAttr, h6c, h7, h22, hbg, hset, hr2]; (repeat refine ⟨by omega, ?_⟩); refine η _ ?_; clear η κ) | (refine zd (hK _ ?_); clear hE hK E K) | apply zb | apply zq
    refine zel (hRb _ ?_ ?_)
    ·exact hup _ _ rfl rfl rfl (.inr ⟨_, rfl, rfl⟩) rfl rfl
    ·exact zga (by simp [zaH])
  ·obtain ⟨rfl, hi⟩ := hr
   obtain ⟨x, h6c, hx⟩ := hi.p
   have h1 := hi.a
   have h7 := hi.d
   have h22 := hi.r
   simp only [List.take_length] at h22 hx
   simp only [cA] at h1
   clear h6 hF hi
   repeat' first | apply zg | apply zj | refine zf rfl fun K E hK hE => ?_ | (refine za fun κ η => ?_; simp only [go_sem, simprocAttr, h1]; (repeat refine ⟨by omega, ?_⟩); refine η _ ?_; clear η κ) | (refine zd (hK _ ?_); clear hE hK E K) | apply zb | apply zq
   refine zW (fun m s' => ∃ k : Nat, m = gts.length - k ∧ k ≤ gts.length ∧ ∃ F G0 yy, s' = nf 54 F G0 [(6, .ptr 6 1 0), (7, .ptr 7 1 0), (9, yy), (34, .t (.sl (gsR gts))), (35, .t (.i .i64 gts.length)), (36, .t (.i .i64 k))] [] ∧ G0 6 = ⟨1, .cells 56 [x]⟩ ∧ Acc G0 29 3 1 (iR (zaf (zZ gts).1)) x ∧ G0 7 = ⟨1, .cells 27 [.row 22 1]⟩ ∧ G0 22 = ⟨1, .row 4 1 (bR gts.length (zal (zZ gts).1))⟩ ∧ Acc G0 50 9 1 (sR (za6 gts k)) yy) gts.length ?_ ?_
   ·exact ⟨0, by omega, by omega, _, _, _, zp rfl ⟨rfl, rfl, rfl, rfl, rfl, rfl, trivial⟩ trivial, h6c, hx, h7, h22, .inl ⟨rfl, rfl⟩⟩
   clear h1 h6c hx h7 h22
   rintro m s' ⟨k, rfl, hk, F, G0, yy, rfl, h6c, hx, h7, h22, hy⟩
   repeat' first | apply zg | refine zf rfl fun K E hK hE => ?_ | (refine za fun κ η => ?_; simp only [go_sem, simprocAttr]; refine η _ ?_; clear η κ) | (refine zd (hK _ ?_); clear hE hK E K) | apply zb
   refine zh _ rfl (fun hq => ?_) (fun hq => ?_)
   ·simp only [decide_eq_true_eq] at hq
    have hkl : k < gts.length := by omega
    have hx' := zaQ (zbU hkl)
    have hbg := zdw (th := zal (zZ gts).1) hkl
    have hnx := zgb gts k
    cases hb : zal (zZ gts).1 k with
    | true =>
     rw [hb] at hbg
     rw [if_pos hb, List.append_nil] at hnx
     repeat' first | apply zg | apply zj | refine zf rfl fun K E hK hE => ?_ | (refine za fun κ η => ?_; simp only [go_sem, simprocAttr, hx', h7, h22, hbg]; (repeat refine ⟨by omega, ?_⟩); refine η _ ?_; clear η κ) | (refine zd (hK _ ?_); clear hE hK E K) | apply zb | refine zh false rfl (fun h => (by cases h)) fun _ => ?_ | apply zq | apply zi | apply zs
     exact ⟨gts.length - (k + 1), by omega, k + 1, rfl, by omega, _, _, _, zp rfl ⟨rfl, rfl, rfl, rfl, rfl, rfl, trivial⟩ trivial, h6c, hx, h7, h22, by rw [hnx]; exact hy⟩
    | false =>
     rw [hb] at hbg
     rw [if_neg (by rw [hb]; decide)] at hnx
     have hs2 : sR (za6 gts (k + 1)) = sR (za6 gts k) ++ [[.s (gat gts k).name]] := by rw [hnx, zbC]; rfl
     have hlen : (sR (za6 gts k)).length ≤ 1000000 := by
      have := zd8 gts k
      rw [zdu]
      omega
     rcases hy with ⟨h0, rfl⟩ | ⟨q, rfl, hr2⟩
     ·rw [h0] at hs2
      repeat' first | apply zg | apply zj | refine zf rfl fun K E hK hE => ?_ | (refine za fun κ η => ?_; simp only [go_sem, simprocAttr, hx', h7, h22, hbg]; (repeat refine ⟨by omega, ?_⟩); refine η _ ?_; clear η κ) | (refine zd (hK _ ?_); clear hE hK E K) | apply zb | refine zh true rfl (fun _ => ?_) (fun h => (by cases h)) | apply zq | apply zi | apply zs
      exact ⟨gts.length - (k + 1), by omega, k + 1, rfl, by omega, _, _, _, zp rfl ⟨rfl, rfl, rfl, rfl, rfl, rfl, trivial⟩ trivial, h6c, hx, h7, h22, .inr ⟨_, rfl, by rw [hs2]; rfl⟩⟩
     ·generalize sR (za6 gts k) = rw0 at hr2 hs2 hlen
      repeat' first | apply zg | apply zj | refine zf rfl fun K E hK hE => ?_ | (refine za fun κ η => ?_; simp only [go_sem, simprocAttr, hx', h7, h22, hbg, hr2]; (repeat refine ⟨by omega, ?_⟩); refine η _ ?_; clear η κ) | (refine zd (hK _ ?_); clear hE hK E K) | apply zb | refine zh true rfl (fun _ => ?_) (fun h => (by cases h)) | apply zq | apply zi | apply zs
      exact ⟨gts.length - (k + 1), by omega, k + 1, rfl, by omega, _, _, _, zp rfl ⟨rfl, rfl, rfl, rfl, rfl, rfl, trivial⟩ trivial, h6c, hx, h7, h22, .inr ⟨_, rfl, by rw [hs2]; rfl⟩⟩
   ·simp only [decide_eq_false_iff_not] at hq
    obtain rfl : k = gts.length := by omega
    rw [zdx] at hy
    rcases hx with ⟨x0, rfl⟩ | ⟨q, rfl, hr2⟩ <;> rcases hy with ⟨y0, rfl⟩ | ⟨q', rfl, hr3⟩
    ·rw [x0, y0]
     repeat' first | apply zg | refine zf rfl fun K E hK hE => ?_ | (refine za fun κ η => ?_; simp only [go_sem, simprocAttr, h6c]; refine η _ ?_; clear η κ) | (refine zd (hK _ ?_); clear hE hK E K) | apply zb | apply zt | apply zk | apply zu | apply zw | apply zx | (apply zm; apply zn; simp only [go_sem, simprocAttr, h6c])
    ·rw [x0]
     repeat' first | apply zg | refine zf rfl fun K E hK hE => ?_ | (refine za fun κ η => ?_; simp only [go_sem, simprocAttr, h6c, hr3]; refine η _ ?_; clear η κ) | (refine zd (hK _ ?_); clear hE hK E K) | apply zb | apply zt | apply zk | apply zu | apply zw | apply zx | (apply zm; apply zn; simp only [go_sem, simprocAttr, h6c, hr3])
    ·rw [y0]
     repeat' first | apply zg | refine zf rfl fun K E hK hE => ?_ | (refine za fun κ η => ?_; simp only [go_sem, simprocAttr, h6c, hr2]; refine η _ ?_; clear η κ) | (refine zd (hK _ ?_); clear hE hK E K) | apply zb | apply zt | apply zk | apply zu | apply zw | apply zx | (apply zm; apply zn; simp only [go_sem, simprocAttr, h6c, hr2])
    ·repeat' first | apply zg | refine zf rfl fun K E hK hE => ?_ | (refine za fun κ η => ?_; simp only [go_sem, simprocAttr, h6c, hr2, hr3]; refine η _ ?_; clear η κ) | (refine zd (hK _ ?_); clear hE hK E K) | apply zb | apply zt | apply zk | apply zu | apply zw | apply zx | (apply zm; apply zn; simp only [go_sem, simprocAttr, h6c, hr2, hr3])
 ·have hs : zbD c = ([], []) := if_neg h0
  rw [hs]
  obtain ⟨ins, outs, las, gts⟩ := c
  have h0' := eq_false h0
  simp only [cE] at hck ⊢
  refine zI (cls := _root_.id) zB zD Tryz.func44 rfl (by decide) (Nat.le_of_ble_eq_true rfl) ?_
  rw [show Tryz.f44.ntmps = 54 from rfl, zC]
  simp only [List.zipIdx_cons, List.zipIdx_nil, List.map_cons, List.map_nil, Nat.reduceAdd, cE]
  repeat' first | apply zg | refine zf rfl fun K E hK hE => ?_ | (refine za fun κ η => ?_; simp only [go_sem, simprocAttr]; refine η _ ?_; clear η κ) | (refine zd (hK _ ?_); clear hE hK E K) | apply zb
  refine zaI fun κ η => ?_; simp only [go_sem, simprocAttr]; refine ⟨_, (hck _), ?_⟩; rintro _ _ ⟨rfl, rfl⟩; simp only [go_sem, simprocAttr]; refine η _ ?_; clear η κ
  repeat' first | apply zg | refine zf rfl fun K E hK hE => ?_ | (refine za fun κ η => ?_; simp only [go_sem, simprocAttr, h0']; refine η _ ?_; clear η κ) | (refine zd (hK _ ?_); clear hE hK E K) | apply zb | refine zh true rfl (fun _ => ?_) (fun h => (by cases h)) | apply zk | apply zy | (apply zm; apply zn; simp only [go_sem, simprocAttr, h0'])
  rfl
end Go.Proofs.YtbhoeanfnbkenaaGreatDoor
namespace Go.Proofs.YtbhoeanfnbkenaaGreatDoor
open Go.RowKit Go.WideMaps
set_option maxRecDepth 100000
set_option linter.unusedSimpArgs false
theorem zgd (gs : List Gt) : ∀ (m : Nat) (th : Nat → Bool), zah gs (m + 1) th = match zaF gs (zah gs m th).2 with
  | none => zah gs m th
  | some k => ((zah gs m th).1 ++ [k], updB (zah gs m th).2 k)
 | 0, th => by
  show _ = match zaF gs th with
   | none => zah gs 0 th
   | some k => (([] : List Nat) ++ [k], updB th k)
  cases h : zaF gs th with
  | none => exact zdk h 1
  | some k => exact zci h
 | m + 1, th => by
  cases h : zaF gs th with
  | none => rw [zdk h (m + 1 + 1), zdk h (m + 1), h]
  | some k =>
   rw [zci h, zci h, zgd gs m (updB th k)]
   show _ = match zaF gs (zah gs m (updB th k)).2 with
    | none => (k :: (zah gs m (updB th k)).1, (zah gs m (updB th k)).2)
    | some j => (k :: (zah gs m (updB th k)).1 ++ [j], updB (zah gs m (updB th k)).2 j)
   cases zaF gs (zah gs m (updB th k)).2 <;> rfl
theorem zjb {gs : List Gt} {th : Nat → Bool} {k : Nat} (hk : k < gs.length) (h : ∀ j, j < k → zbn gs th j = false) (hf : zbn gs th k = true) : zaF gs th = some k :=
 List.find?_range_eq_some.2 ⟨hf, List.mem_range.2 hk, fun j hj => by rw [h j hj]; rfl⟩
theorem zjc {gs : List Gt} {th : Nat → Bool} (h : ∀ j, j < gs.length → zbn gs th j = false) : zaF gs th = none :=
 List.find?_range_eq_none.2 fun j hj => by rw [h j hj]; rfl
theorem zjd (l : List Nat) (k : Nat) : iR (zaf (l ++ [k])) = iR (zaf l) ++ [[.i .i64 (k : Nat)]] := by
 unfold zaf
 rw [List.map_append, zdz]
 rfl
end Go.Proofs.YtbhoeanfnbkenaaGreatDoor
namespace Go.Proofs.YtbhoeanfnbkenaaGreatDoor
open Go.RowKit Go.WideMaps
set_option maxRecDepth 100000
set_option linter.unusedSimpArgs false
variable (Hy : World → Prop)
attribute [local irreducible] zU zY cwp z1 z6 lpQ z8 asQ bdQ bdY zab zac zad zaa
def zaw (c : Ci) : Int × ByteArray := if (zai c).1 = 0 then (match za0 c.gts with
 | [] => (0, zba)
 | x :: _ => (7, x)) else zai c
set_option maxHeartbeats 4000000 in
theorem zje (c : Ci) (hr : CRoom c) (hgo : GOk c.gts) (hlo : LOk c.las) : Ct Tryz.prog Hy 41 [.ag (cE c)] [.i .i64 (zaw c).1, .s (zaw c).2] := by
 have hck := fun (o : Nat → O) => Cm.of_ct (o := o) (ziR Hy c hr hgo hlo)
 have hso := fun (o : Nat → O) => Cm.of_ct (o := o) (zgc Hy c hr hgo hlo)
 by_cases h0 : (zai c).1 = 0
 ·have h0' := eq_true h0
  have hs : zbD c = ((zZ c.gts).1, za0 c.gts) := if_pos h0
  rw [hs] at hso
  have hce : zaw c = match za0 c.gts with
   | [] => (0, zba)
   | x :: _ => (7, x) := if_pos h0
  rw [hce]
  have hnl := zd8 c.gts c.gts.length
  rw [zdx] at hnl
  have hn2 := (zdv h0).n200
  generalize za0 c.gts = nv at *
  obtain ⟨ins, outs, las, gts⟩ := c
  simp only [cE] at hck hso ⊢
  cases nv with
  | nil =>
   refine zI (cls := _root_.id) zB zD Tryz.func41 rfl (by decide) (Nat.le_of_ble_eq_true rfl) ?_
   rw [show Tryz.f41.ntmps = 28 from rfl, zC]
   simp only [List.zipIdx_cons, List.zipIdx_nil, List.map_cons, List.map_nil, Nat.reduceAdd, cE]
   repeat' first | apply zg | refine zf rfl fun K E hK hE => ?_ | (refine za fun κ η => ?_; simp only [go_sem, simprocAttr]; refine η _ ?_; clear η κ) | (refine zd (hK _ ?_); clear hE hK E K) | apply zb
   refine zaI fun κ η => ?_; simp only [go_sem, simprocAttr]; refine ⟨_, (hck _), ?_⟩; rintro _ _ ⟨rfl, rfl⟩; simp only [go_sem, simprocAttr]; refine η _ ?_; clear η κ
   repeat' first | apply zg | refine zf rfl fun K E hK hE => ?_ | (refine za fun κ η => ?_; simp only [go_sem, simprocAttr, h0']; refine η _ ?_; clear η κ) | (refine zd (hK _ ?_); clear hE hK E K) | apply zb | refine zh false rfl (fun h => (by cases h)) fun _ => ?_ | apply zi
   refine zaI fun κ η => ?_; simp only [go_sem, simprocAttr]; refine ⟨_, (hso _), ?_⟩; rintro _ _ ⟨rfl, rfl⟩; simp only [go_sem, simprocAttr]; refine η _ ?_; clear η κ
   repeat' first | apply zg | refine zf rfl fun K E hK hE => ?_ | (refine za fun κ η => ?_; simp only [go_sem, simprocAttr, sR, List.map_nil, List.length_nil]; refine η _ ?_; clear η κ) | (refine zd (hK _ ?_); clear hE hK E K) | apply zb | refine zh false rfl (fun h => (by cases h)) fun _ => ?_ | apply zi | apply zk | (apply zm; apply zn; simp only [go_sem, simprocAttr, sR, List.map_nil, List.length_nil])
   rfl
  | cons x l =>
   have hx : (sR (x :: l))[0]? = some [.s x] := rfl
   have hp : ((0 : Int) < (x :: l).length) = True := eq_true (by rw [List.length_cons]; omega)
   generalize hsr : x :: l = nv at *
   refine zI (cls := _root_.id) zB zD Tryz.func41 rfl (by decide) (Nat.le_of_ble_eq_true rfl) ?_
   rw [show Tryz.f41.ntmps = 28 from rfl, zC]
   simp only [List.zipIdx_cons, List.zipIdx_nil, List.map_cons, List.map_nil, Nat.reduceAdd, cE]
   repeat' first | apply zg | refine zf rfl fun K E hK hE => ?_ | (refine za fun κ η => ?_; simp only [go_sem, simprocAttr]; refine η _ ?_; clear η κ) | (refine zd (hK _ ?_); clear hE hK E K) | apply zb
   refine zaI fun κ η => ?_; simp only [go_sem, simprocAttr]; refine ⟨_, (hck _), ?_⟩; rintro _ _ ⟨rfl, rfl⟩; simp only [go_sem, simprocAttr]; refine η _ ?_; clear η κ
   repeat' first | apply zg | refine zf rfl fun K E hK hE => ?_ | (refine za fun κ η => ?_; simp only [go_sem, simprocAttr, h0']; refine η _ ?_; clear η κ) | (refine zd (hK _ ?_); clear hE hK E K) | apply zb | refine zh false rfl (fun h => (by cases h)) fun _ => ?_ | apply zi
   refine zaI fun κ η => ?_; simp only [go_sem, simprocAttr]; refine ⟨_, (hso _), ?_⟩; rintro _ _ ⟨rfl, rfl⟩; simp only [go_sem, simprocAttr]; refine η _ ?_; clear η κ
   repeat' first | apply zg | refine zf rfl fun K E hK hE => ?_ | refine zG rfl (by kernel_rfl) fun K E hK hE => ?_ | ((first | refine za fun κ η => ?_ | refine zr (by kernel_rfl) fun κ η => ?_); simp only [go_sem, simprocAttr, hp, hx]; (repeat refine ⟨by omega, ?_⟩); refine η _ ?_; clear η κ) | (refine zd (hK _ ?_); clear hE hK E K) | apply zb | refine zh true rfl (fun _ => ?_) (fun h => (by cases h)) | (refine zH (hK _ ?_); clear hE hK E K) | apply zk | apply zy | (apply zm; apply zn; simp only [go_sem, simprocAttr, hp, hx])
   rw [← hsr]
 ·have h0' := eq_false h0
  have hce : zaw c = zai c := if_neg h0
  rw [hce]
  obtain ⟨ins, outs, las, gts⟩ := c
  simp only [cE] at hck ⊢
  refine zI (cls := _root_.id) zB zD Tryz.func41 rfl (by decide) (Nat.le_of_ble_eq_true rfl) ?_
  rw [show Tryz.f41.ntmps = 28 from rfl, zC]
  simp only [List.zipIdx_cons, List.zipIdx_nil, List.map_cons, List.map_nil, Nat.reduceAdd, cE]
  repeat' first | apply zg | refine zf rfl fun K E hK hE => ?_ | (refine za fun κ η => ?_; simp only [go_sem, simprocAttr]; refine η _ ?_; clear η κ) | (refine zd (hK _ ?_); clear hE hK E K) | apply zb
  refine zaI fun κ η => ?_; simp only [go_sem, simprocAttr]; refine ⟨_, (hck _), ?_⟩; rintro _ _ ⟨rfl, rfl⟩; simp only [go_sem, simprocAttr]; refine η _ ?_; clear η κ
  repeat' first | apply zg | refine zf rfl fun K E hK hE => ?_ | (refine za fun κ η => ?_; simp only [go_sem, simprocAttr, h0']; refine η _ ?_; clear η κ) | (refine zd (hK _ ?_); clear hE hK E K) | apply zb | refine zh true rfl (fun _ => ?_) (fun h => (by cases h)) | apply zk | apply zy | (apply zm; apply zn; simp only [go_sem, simprocAttr, h0'])
end Go.Proofs.YtbhoeanfnbkenaaGreatDoor
