import Derived.Test.YtbhoeanfnbkenaaGreatDoorEng16
import Derived.WideShapes
import Derived.ChangeShapes
import Derived.Deep.Slices
import Derived.DataShut
import Derived.RowKit3
namespace Go.Proofs.YtbhoeanfnbkenaaGreatDoor
open Go.RowKit
section
variable {P : Program} {Hy : World → Prop} {X : World → (Nat → Prop) → (Nat → O) → (Nat → Value) → Prop} {B : Nat} {St : Nat → Prop} {Dp : List Deferred → Prop} {w0 w : World} {o o' o2 : Nat → O} {ι : Nat → Value}
theorem Ob.imp {D D' : Nat → Prop} {x : Value} {k : OK} (mT : ∀ (v : Value) (t : T), Rt w D v t → Rt w D' v t) (mA : ∀ (v : Value) (z : A), Ra w D o ι v z → Ra w D' o' ι v z) (h : Ob B w D o ι x k) : Ob B w D' o' ι x k := by
 cases k with
 | none => exact trivial
 | ro l => exact mT _ _ h
 | cells ty l =>
  obtain ⟨blk, cs, h1, h2, h3, h4, h5⟩ := h
  refine ⟨blk, cs, h1, h2, h3, h4, fun j y hy => ?_⟩
  obtain ⟨c, hc, hl, hr⟩ := h5 j y hy
  exact ⟨c, hc, hl, mA _ _ hr⟩
 | row ty z l =>
  obtain ⟨h1, xs, h2, h3⟩ := h
  refine ⟨h1, xs, h2, fun j y hy => ?_⟩
  obtain ⟨c, hc, hl, hr⟩ := h3 j y hy
  exact ⟨c, hc, hl, mT _ _ hr⟩
 | rowA ty z l =>
  obtain ⟨h1, xs, h2, h3⟩ := h
  refine ⟨h1, xs, h2, fun j y hy => ?_⟩
  obtain ⟨c, hc, hl, hr⟩ := h3 j y hy
  exact ⟨c, hc, hl, mA _ _ hr⟩
 | map ks l =>
  obtain ⟨blk, es, ck, h1, h2, h3, h4, h5, h6, h7⟩ := h
  refine ⟨blk, es, ck, h1, h2, h3, h4, h5, h6, fun j y hy => ?_⟩
  obtain ⟨c, hc, hk2, hl, hr⟩ := h7 j y hy
  exact ⟨c, hc, hk2, hl, mA _ _ hr⟩
theorem RresM.imp {D D' : Nat → Prop} {v : Value} (mA : ∀ (v : Value) (z : A), Ra w D o ι v z → Ra w D' o' ι v z) : ∀ {l : List A}, RresM w D o ι v l → RresM w D' o' ι v l
 | [], ⟨cs, c, h1, h2, h3, h4⟩ => ⟨cs, c, h1, h2, h3, fun j x hx => mA _ _ (h4 j x hx)⟩
 | [_], h => mA _ _ h
 | _ :: _ :: _, ⟨cs, c, h1, h2, h3, h4⟩ => ⟨cs, c, h1, h2, h3, fun j x hx => mA _ _ (h4 j x hx)⟩
theorem Cm.settle {f : FuncId} {args : List A} {R R' : List A → (Nat → O) → Prop} (h : Cm P Hy f args o R) (hr : ∀ rs o', R rs o' → ∃ o'', Stl o' o'' ∧ R' rs o'') : Cm P Hy f args o R' :=
 ⟨h.fn, fun X B St w0 ι w cargs hM hs ha => (h.go X B St w0 ι w cargs hM hs ha).mono (fun _ _ ⟨v, ι', o', rs, h1, h2, h3, h4⟩ => by
  obtain ⟨o'', hs, hr'⟩ := hr _ _ h2
  obtain ⟨q1, q2⟩ := hs _ _ _ _ _ _ _ h3
  exact ⟨v, ι', o'', rs, h1, hr', q1, RresM.imp q2 h4⟩)⟩
theorem Cm.pre {f : FuncId} {args : List A} {R : List A → (Nat → O) → Prop} (hs : Stl o o') (h : Cm P Hy f args o' R) : Cm P Hy f args o R :=
 ⟨h.fn, fun X B St w0 ι w cargs hM hz ha => by
  obtain ⟨q1, q2⟩ := hs _ _ _ _ _ _ _ hM
  exact h.go X B St w0 ι w cargs q1 hz (fun j v x h1 h2 => q2 _ _ (ha j v x h1 h2))⟩
def ob1 (o : Nat → O) (id : Nat) (k : OK) : Nat → O := fun j => if j = id then ⟨(o id).gen, k⟩ else o j
theorem zdE {id : Nat} {k : OK} : ob1 o id k id = ⟨(o id).gen, k⟩ := if_pos rfl
theorem zgC {id j : Nat} {k : OK} (h : j ≠ id) : ob1 o id k j = o j := if_neg h
theorem zgD {id : Nat} {k : OK} (j : Nat) : (ob1 o id k j).gen = (o j).gen := by
 unfold ob1
 split
 ·rename_i e; rw [e]
 ·rfl
theorem Stl.ro {id : Nat} {ty : TypeId} {z : Nat} {l : List (List T)} (hk : (o id).k = .row ty z l) : Stl o (ob1 o id (.ro l)) := fun Hy X B St w0 ι w hM => by
 have hu : UpOk w B St (⟨0, fun _ => .junk, o⟩ : S) ι [(id, ⟨(o id).gen, .ro l⟩)] := fun p hp => by
  obtain rfl := List.mem_singleton.1 hp
  exact ⟨l, rfl, fun D' hd hm => zdP hM.rel hk hd (hm _ List.mem_cons_self)⟩
 obtain ⟨k1, k2, _⟩ := hM.rel.frz hu
 refine ⟨k1.mem, fun v x hx => hx.mono (fun g hg => ⟨k2 g hg, rfl⟩) (fun i => ?_)⟩
 rw [zgD]
 exact ⟨Nat.le_refl _, fun _ => rfl⟩
theorem Stl.ch {id : Nat} {k : OK} (hm : ∀ ι, mb (ob1 o id k) ι id = mb o ι id) (hob : ∀ B w D ι, (∀ j, Ob B w D o ι (ι j) (o j).k) → Ob B w D o ι (ι id) k) : Stl o (ob1 o id k) := fun Hy X B St w0 ι w hM => by
 have hmb : ∀ j, mb (ob1 o id k) ι j = mb o ι j := fun j => by
  by_cases h : j = id
  ·rw [h, hm]
  ·unfold mb; rw [zgC h]
 have hk : ∀ g, Sd B St o ι w g → Sd B St (ob1 o id k) ι w g ∧ w.heap[g]? = w.heap[g]? := fun g hg => ⟨⟨hg.1, hg.2.1, fun i => by rw [hmb]; exact hg.2.2 i⟩, rfl⟩
 have hgs : ∀ i, (o i).gen ≤ (ob1 o id k i).gen ∧ ((o i).gen = (ob1 o id k i).gen → ι i = ι i) := fun i => by
  rw [zgD]
  exact ⟨Nat.le_refl _, fun _ => rfl⟩
 have mT : ∀ (v : Value) (t : T), Rt w (Sd B St o ι w) v t → Rt w (Sd B St (ob1 o id k) ι w) v t := fun v t ht => ht.mono hk
 have mA : ∀ (v : Value) (z : A), Ra w (Sd B St o ι w) o ι v z → Ra w (Sd B St (ob1 o id k) ι w) (ob1 o id k) ι v z := fun v z hz => hz.mono hk hgs
 refine ⟨⟨hM.below, hM.hB, fun j => ?_, fun i j b e1 e2 => ?_, hM.stB, hM.hy, (by obtain ⟨N, _, n2⟩ := hM.xc; exact n2 _ _ _ _ _ _ _ _ mT mA (Nat.le_refl _) (fun _ _ _ _ e => e) hM.x), hM.xc⟩, mA⟩
 ·by_cases h : j = id
  ·subst h
   rw [zdE]
   exact (hob B w _ ι hM.ob).imp mT mA
  ·rw [zgC h]
   exact (hM.ob j).imp mT mA
 ·rw [hmb] at e1 e2
  exact hM.inj _ _ _ e1 e2
def Chg (o : Nat → O) (x x' : A) : Prop := x = x' ∨ ∃ id g m, x = .row id g ∧ g = (o id).gen ∧ (o id).k = .ro m ∧ x' = .t (.sl m)
theorem Chg.ra {D : Nat → Prop} {x x' : A} {v : Value} (hob : ∀ j, Ob B w D o ι (ι j) (o j).k) (h : Chg o x x') (hr : Ra w D o ι v x) : Ra w D o ι v x' := by
 rcases h with rfl | ⟨id, g, m, rfl, hg, hk, rfl⟩
 ·exact hr
 ·rw [hr.row_get hg]
  have := hob id
  rw [hk] at this
  exact .t this
theorem Chg.leaf {x x' : A} (h : Chg o x x') (hx : x.leaf = true) : x'.leaf = true := by
 rcases h with rfl | ⟨id, g, m, rfl, hg, hk, rfl⟩
 ·exact hx
 ·rfl
theorem Stl.rowA {id : Nat} {e : TypeId} {z : Nat} {l l' : List (List A)} (hk : (o id).k = .rowA e z l) (hl : l'.length = l.length) (hz : (∀ x ∈ l, x.length = z) → ∀ x ∈ l', x.length = z)
  (hc : ∀ (j : Nat) x', l'.flatten[j]? = some x' → ∃ x, l.flatten[j]? = some x ∧ Chg o x x') : Stl o (ob1 o id (.rowA e z l')) :=
 Stl.ch (fun ι => by unfold mb; rw [zdE, hk]) (fun B w D ι hob => by
  have h := hob id
  rw [hk] at h
  obtain ⟨h1, xs, h2, h3⟩ := h
  refine ⟨hz h1, xs, by rw [hl]; exact h2, fun j y hy => ?_⟩
  obtain ⟨x, hx, hcg⟩ := hc j y hy
  obtain ⟨c, c1, c2, c3⟩ := h3 j x hx
  exact ⟨c, c1, hcg.leaf c2, hcg.ra hob c3⟩)
theorem Stl.cells {id : Nat} {ty : TypeId} {l l' : List A} (hk : (o id).k = .cells ty l) (hl : l'.length = l.length) (hc : ∀ (j : Nat) x', l'[j]? = some x' → ∃ x, l[j]? = some x ∧ Chg o x x') : Stl o (ob1 o id (.cells ty l')) :=
 Stl.ch (fun ι => by unfold mb; rw [zdE, hk]) (fun B w D ι hob => by
  have h := hob id
  rw [hk] at h
  obtain ⟨blk, cs, h1, h2, h3, h4, h5⟩ := h
  refine ⟨blk, cs, h1, h2, h3, h4.trans hl.symm, fun j y hy => ?_⟩
  obtain ⟨x, hx, hcg⟩ := hc j y hy
  obtain ⟨c, c1, c2, c3⟩ := h5 j x hx
  exact ⟨c, c1, hcg.leaf c2, hcg.ra hob c3⟩)
end
end Go.Proofs.YtbhoeanfnbkenaaGreatDoor
namespace Go.Proofs.YtbhoeanfnbkenaaGreatDoor
open Go.RowKit
section
variable {P : Program} {Hy : World → Prop} {o : Nat → O}
theorem Cm.of_ct {f : FuncId} {args r : List T} (h : Ct P Hy f args r) : Cm P Hy f (args.map A.t) o fun rs o' => rs = r.map A.t ∧ o = o' :=
 ⟨h.fn, fun X B St w0 ι w cargs hM hsz harg => by
  refine (h.go w cargs (Sd B St o ι w) (fun g hg => hg.2.1) (fun w' hw => hM.hy w' (hM.below.trans (hw.mono hM.hB))) (by simpa using hsz) (fun j v t hv ht => ?_)).mono ?_
  ·exact (harg j v (.t t) hv (by rw [List.getElem?_map, ht]; rfl)).dat
  ·rintro e w' ⟨v, rfl, hr, hb⟩
   refine ⟨v, ι, o, r.map .t, rfl, ⟨rfl, rfl⟩, (hM.rel.keep hb none .junk undef (fun h => absurd rfl h)).mem, ?_⟩
   have hw : ∀ (v : Value) (t : T), Rt w' (fun g => Sd B St o ι w g ∨ (w.heap.size ≤ g ∧ g < w'.heap.size)) v t → Ra w' (Sd B St o ι w') o ι v (.t t) := fun v t ht => .t (ht.wide (fun g hg => by
    rcases hg with hg | hg
    ·exact ⟨hg.1, Nat.lt_of_lt_of_le hg.2.1 hb.size, hg.2.2⟩
    ·exact ⟨.inr (Nat.le_trans hM.hB hg.1), hg.2, fun i e => absurd (hM.rel.mbB e).2 (Nat.not_lt.2 hg.1)⟩))
   match r, hr with
   | [], ⟨cs, c, h1, h2, h3, h4⟩ => exact ⟨cs, c, h1, h2, h3, fun j x hx => (by simp at hx)⟩
   | [x], hr => exact hw _ _ hr
   | x :: y :: r, ⟨cs, c, h1, h2, h3, h4⟩ =>
    refine ⟨cs, c, h1, by simpa using h2, fun j hj => h3 j (by simpa using hj), fun j z hz => ?_⟩
    rw [← List.map_cons, List.getElem?_map] at hz
    obtain ⟨t, ht, rfl⟩ := Option.map_eq_some_iff.1 hz
    exact hw _ _ (h4 j t ht)⟩
theorem Ct.of_cm {f : FuncId} {args r : List T} {R : List A → (Nat → O) → Prop} (h : Cm P Hy f (args.map A.t) o0 R) (hr : ∀ rs o', R rs o' → zbc o' rs fun ts _ => ts = r) : Ct P Hy f args r :=
 ⟨h.fn, fun w cargs D hD hHy hsz harg => by
  have hm : ∀ i, mb o0 (fun _ => undef) i = none := fun i => rfl
  have hM : Mem Hy (fun _ _ _ _ => True) w.heap.size D w o0 (fun _ => undef) w := ⟨Below.refl _ _, Nat.le_refl _, fun id => trivial, fun i j b e => (by rw [hm] at e; cases e), hD, hHy, trivial, ⟨0, Nat.zero_le _, XC.true_⟩⟩
  refine (h.go _ _ D w _ w cargs hM (by simpa using hsz) (fun j v x hv hx => ?_)).mono ?_
  ·rw [List.getElem?_map] at hx
   obtain ⟨t, ht, rfl⟩ := Option.map_eq_some_iff.1 hx
   exact .t ((harg j v t hv ht).wide (fun g hg => ⟨.inl hg, hD g hg, fun i e => (by rw [hm] at e; cases e)⟩))
  ·rintro e w' ⟨v, ι', o', rs, rfl, hR, hM', hv⟩
   have get : ∀ {g : Nat}, Sd w.heap.size D o' ι' w' g → D g ∨ (w.heap.size ≤ g ∧ g < w'.heap.size) := fun hg => hg.1.imp id (fun h => ⟨h, hg.2.1⟩)
   refine ⟨v, rfl, ?_, hM'.below⟩
   have hk := hr _ _ hR
   match rs, hk, hv with
   | [], hk, ⟨cs, c, h1, h2, h3, h4⟩ =>
    obtain rfl : [] = r := hk
    exact ⟨cs, c, h1, h2, h3, fun j x hx => (by simp at hx)⟩
   | [x], hk, hv =>
    obtain ⟨ts, ids, g1, g2, g3, rfl⟩ := zcQ hM'.rel [x] (fun _ => v) (fun j y hy => by
     cases j with
     | zero => cases hy; exact hv
     | succ j => simp at hy) hk
    match ts, g2 with
    | [t], _ => exact g3 0 t rfl _ (fun g hg => get hg) (fun q _ g hg => .inr (hM'.rel.mbB hg))
   | x :: y :: rs, hk, ⟨cs, c, h1, h2, h3, h4⟩ =>
    obtain ⟨ts, ids, g1, g2, g3, rfl⟩ := zcQ hM'.rel (x :: y :: rs) c h4 hk
    match ts, g2 with
    | t :: t' :: ts, g2 => exact ⟨cs, c, h1, by rw [h2, g2], fun j hj => h3 j (by rw [← g2]; exact hj), fun j z hz => g3 j z hz _ (fun g hg => get hg) (fun q _ g hg => .inr (hM'.rel.mbB hg))⟩⟩
theorem Cm.own {f : FuncId} {args args' : List A} {R : List A → (Nat → O) → Prop} {id g : Nat} {ty : TypeId} {z : Nat} {l : List (List T)} (ho : o id = ⟨g, .row ty z l⟩) (hl : args.length = args'.length)
  (ha : ∀ (j : Nat) x x', args[j]? = some x → args'[j]? = some x' → x = x' ∨ (x = .row id g ∧ x' = .t (.sl l)) ∨ (x = .nilS ∧ x' = .t (.sl []))) (h : Cm P Hy f args' (ob1 o id (.ro l)) R) : Cm P Hy f args o R :=
 ⟨h.fn, fun X B St w0 ι w cargs hM hsz harg => by
  obtain ⟨q1, q2⟩ := Stl.ro (o := o) (id := id) (by rw [ho]) _ _ _ _ _ _ _ hM
  refine h.go X B St w0 ι w cargs q1 (hsz.trans hl) (fun j v x' hv hx' => ?_)
  have hj : j < args.length := by rw [hl]; exact (List.getElem?_eq_some_iff.1 hx').1
  have hr := q2 _ _ (harg j v _ hv (List.getElem?_eq_getElem hj))
  rcases ha j _ x' (List.getElem?_eq_getElem hj) hx' with e | ⟨e, rfl⟩ | ⟨e, rfl⟩
  ·rw [← e]; exact hr
  ·rw [e] at hr
   have hg : g = (ob1 o id (.ro l) id).gen := by rw [zdE, ho]
   rw [hr.row_get hg]
   have := q1.ob id
   rw [zdE] at this
   exact .t this
  ·rw [e] at hr
   obtain rfl := Ra.nil_get hr
   exact .t (.sl0 none 0 fun _ => rfl)⟩
end
end Go.Proofs.YtbhoeanfnbkenaaGreatDoor
namespace Go.Proofs.YtbhoeanfnbkenaaGreatDoor
open Go.RowKit Go.WideShapes Go.ChangeShapes Go.Deep
section
variable {H : Type} {enc : TypeId × Value → H} {P : Program} {W : World} {Bw : Nat → Prop} {α β : Type}
def CsR (W : World) (xs : List Value) (ts : List T) : Prop := xs.length = ts.length ∧ ∀ (j : Nat) t, ts[j]? = some t → ∃ c, xs[j]? = some c ∧ t.leaf = true ∧ Rt W (fun g => g < W.heap.size) c t
theorem CsR.app {xs ys : List Value} {ts us : List T} (h : CsR W xs ts) (k : CsR W ys us) : CsR W (xs ++ ys) (ts ++ us) := by
 refine ⟨by rw [List.length_append, List.length_append, h.1, k.1], fun j t ht => ?_⟩
 by_cases hj : j < ts.length
 ·rw [List.getElem?_append_left hj] at ht
  rw [List.getElem?_append_left (by rw [h.1]; exact hj)]
  exact h.2 j t ht
 ·rw [List.getElem?_append_right (Nat.le_of_not_lt hj)] at ht
  rw [List.getElem?_append_right (by rw [h.1]; exact Nat.le_of_not_lt hj), h.1]
  exact k.2 _ t ht
def Opn (enc : TypeId × Value → H) (P : Program) (W : World) (Bw : Nat → Prop) (t : TypeId) (e : α → List T) (Pr : α → Prop) : Prop :=
 ∀ n xs y, DataW.trod enc P W 0 (fun _ => true) true n t xs = some y → xs.length = P.cellsOf t → (∀ q ∈ y.1.weights P t, Bw q) → ∃ a, Pr a ∧ CsR W xs (e a)
theorem zdF {c : Value} {t : T} (hl : t.leaf = true) (h : Rt W (fun g => g < W.heap.size) c t) : CsR W [c] [t] :=
 ⟨rfl, fun j x hx => by
  cases j with
  | zero => cases hx; exact ⟨c, rfl, hl, h⟩
  | succ j => simp at hx⟩
theorem ze9 {t : TypeId} {k : IntKind} (ht : P.underlying t = some (.int k)) : Opn enc P W Bw t (fun n : Int => [T.i k n]) fun n => (Lit.int k n).wf = true := fun n xs y h _ _ => by
 cases n with
 | zero => simp [DataW.trod] at h
 | succ n =>
  unfold DataW.trod at h
  rw [ht] at h
  split at h <;> simp_all
  exact ⟨_, h.1.2, zdF rfl (.i _ _)⟩
theorem zgE {t : TypeId} (ht : P.underlying t = some .bool) : Opn enc P W Bw t (fun b : Bool => [T.b b]) fun _ => True := fun n xs y h _ _ => by
 cases n with
 | zero => simp [DataW.trod] at h
 | succ n =>
  unfold DataW.trod at h
  rw [ht] at h
  obtain ⟨b, rfl⟩ : ∃ b, xs = [.bool b] := by split at h <;> simp_all
  exact ⟨b, trivial, zdF rfl (.b b)⟩
theorem zgF {t : TypeId} (ht : P.underlying t = some .string) : Opn enc P W Bw t (fun s : ByteArray => [T.s s]) fun s => s.size ≤ maxLen := fun n xs y h _ _ => by
 cases n with
 | zero => simp [DataW.trod] at h
 | succ n =>
  unfold DataW.trod at h
  rw [ht] at h
  split at h <;> simp_all
  exact ⟨_, h.1, zdF rfl (.s _)⟩
theorem zgG {Q : Nat → α → Prop} : ∀ n : Nat, (∀ i, i < n → ∃ a, Q i a) → ∃ l : List α, l.length = n ∧ ∀ (i : Nat) a, l[i]? = some a → Q i a
 | 0, _ => ⟨[], rfl, fun i a h => by simp at h⟩
 | n + 1, h => by
  obtain ⟨l, h1, h2⟩ := zgG n (fun i hi => h i (by omega))
  obtain ⟨a, ha⟩ := h n (by omega)
  refine ⟨l ++ [a], by rw [List.length_append, h1]; rfl, fun i b hb => ?_⟩
  by_cases hi : i < l.length
  ·rw [List.getElem?_append_left hi] at hb
   exact h2 i b hb
  ·rw [List.getElem?_append_right (Nat.le_of_not_lt hi)] at hb
   have : i - l.length = 0 := by
    have := (List.getElem?_eq_some_iff.1 hb).1
    simp at this
    omega
   rw [this] at hb
   cases hb
   rw [show i = n by omega]
   exact ha
theorem zdG {t e' : TypeId} {z : Nat} {e : α → List T} {Pr : α → Prop} (ht : P.underlying t = some (.slice e')) (hz : P.cellsOf e' = z) (hz0 : 0 < z) (hz1 : ∀ a, (e a).length = z) (he : Opn enc P W Bw e' e Pr) :
  Opn enc P W Bw t (fun l : List α => [T.sl (l.map e)]) fun l => (∀ a ∈ l, Pr a) ∧ l.length ≤ maxLen ∧ (l = [] ∨ ∃ sp, Bw ((l.length + sp) * P.bytesOf e')) := fun n xs y h _ hB => by
 rcases open_slice ht h with ⟨h1, _⟩ | ⟨a, len, cap, m, n', D, Pl, hcs, _, hlc, hcm, hm, hy1, hi⟩
 ·rw [h1]
  exact ⟨[], ⟨fun _ h => (by cases h), Nat.zero_le _, .inl rfl⟩, zdF rfl (.sl0 none 0 (fun _ => rfl))⟩
 ·rw [hcs]
  simp only [if_true] at hm
  subst hm
  have hw : ∀ {l : List (DataW H)} {d : DataW H} {q : Nat}, d ∈ l → q ∈ d.weights P e' → q ∈ DataW.weightsAll P e' l := fun {l} => by
   induction l with
   | nil => intro d q h; cases h
   | cons x l ih =>
    intro d q h hq
    unfold DataW.weightsAll
    rcases List.mem_cons.1 h with rfl | h
    ·exact List.mem_append_left _ hq
    ·exact List.mem_append_right _ (ih h hq)
  have hwt : y.1.weights P t = (((List.range len).map D).length + ((List.range (m - len)).map fun j => D (len + j)).length) * P.bytesOf e' :: (DataW.weightsAll P e' ((List.range len).map D) ++ DataW.weightsAll P e' ((List.range (m - len)).map fun j => D (len + j))) := by
   rw [hy1]
   simp only [DataW.weights, ht]
  rw [hwt] at hB
  have hat : ∀ i, i < len → ∃ x : α, Pr x ∧ ∀ (j : Nat) u, (e x)[j]? = some u → ∃ c, W.cell? (a.add (i * z + j)) = some c ∧ u.leaf = true ∧ Rt W (fun g => g < W.heap.size) c u := by
   intro i hi'
   obtain ⟨cs', hc, hy⟩ := hi i (by omega)
   rw [hz] at hc
   obtain ⟨_, hlen, hcell⟩ := World.cells?_some hc
   obtain ⟨x, hp, hx⟩ := he _ _ _ hy (by rw [hlen, hz]) (fun q hq => hB q (List.mem_cons_of_mem _ (List.mem_append_left _ (hw (List.mem_map.2 ⟨i, List.mem_range.2 hi', rfl⟩) hq))))
   refine ⟨x, hp, fun j u hu => ?_⟩
   obtain ⟨c, h1, h2, h3⟩ := hx.2 j u hu
   have hj : j < z := by have := (List.getElem?_eq_some_iff.1 hu).1; rwa [hz1] at this
   exact ⟨c, by rw [← h1, ← hcell j hj, Go.Deep.add_add], h2, h3⟩
  obtain ⟨l, hll, hl⟩ := zgG len hat
  refine ⟨l, ⟨fun x hx => ?_, by rw [hll]; exact Nat.le_trans hlc hcm, .inr ⟨_, by have := hB _ List.mem_cons_self; rwa [List.length_map, List.length_range, ← hll] at this⟩⟩, zdF rfl ?_⟩
  ·obtain ⟨j, hj⟩ := List.getElem?_of_mem hx
   exact (hl j x hj).1
  ·rcases Nat.eq_zero_or_pos len with h0 | h0
   ·subst h0
    obtain rfl := List.length_eq_zero_iff.1 hll
    exact .sl0 (some a) _ (fun h => by cases h)
   ·obtain ⟨ab, ao, asp⟩ := a
    have flat : ∀ (j : Nat) u, (l.map e).flatten[j]? = some u → ∃ c, W.cell? ((⟨ab, ao, asp⟩ : Addr).add j) = some c ∧ u.leaf = true ∧ Rt W (fun g => g < W.heap.size) c u := fun j u hu => by
     have hzl : ∀ x ∈ l.map e, x.length = z := fun x hx => by obtain ⟨y, _, rfl⟩ := List.mem_map.1 hx; exact hz1 y
     have hj : j < len * z := by
      have := (List.getElem?_eq_some_iff.1 hu).1
      rwa [zbh hzl, List.length_map, hll] at this
     have hq : j / z < len := Nat.div_lt_of_lt_mul (by rw [Nat.mul_comm]; exact hj)
     have hm := Nat.mod_lt j hz0
     have hdm := Nat.div_add_mod j z
     obtain ⟨x, hx⟩ : ∃ x, l[j / z]? = some x := ⟨_, List.getElem?_eq_getElem (by omega)⟩
     obtain ⟨v, hv⟩ : ∃ v, (e x)[j % z]? = some v := ⟨_, List.getElem?_eq_getElem (by rw [hz1]; exact hm)⟩
     have := zcE hzl (show (l.map e)[j / z]? = some (e x) by rw [List.getElem?_map, hx]; rfl) hv
     rw [show j / z * z + j % z = j by rw [Nat.mul_comm]; exact hdm, hu] at this
     cases this
     have := (hl (j / z) x hx).2 (j % z) u hv
     rwa [show j / z * z + j % z = j by rw [Nat.mul_comm]; exact hdm] at this
    have some0 : ∃ c, W.cell? (⟨ab, ao, asp⟩ : Addr) = some c := by
     obtain ⟨x, hx⟩ : ∃ x, l[0]? = some x := ⟨_, List.getElem?_eq_getElem (by omega)⟩
     obtain ⟨v, hv⟩ : ∃ v, (e x)[0]? = some v := ⟨_, List.getElem?_eq_getElem (by rw [hz1]; exact hz0)⟩
     obtain ⟨c, h1, _⟩ := (hl 0 x hx).2 0 v hv
     rw [show (⟨ab, ao, asp⟩ : Addr).add (0 * z + 0) = ⟨ab, ao, asp⟩ by rw [Nat.zero_mul]; rfl] at h1
     exact ⟨c, h1⟩
    obtain ⟨c0, hc0⟩ := some0
    have hsp : asp = none := by
     rcases asp with _ | s
     ·rfl
     ·exfalso
      unfold World.cell? at hc0
      split at hc0 <;> simp at hc0
    subst hsp
    have hadd : ∀ j, (⟨ab, ao, none⟩ : Addr).add j = ⟨ab, ao + j, none⟩ := fun j => by
     unfold Addr.add
     split
     ·rename_i h0; subst h0; rfl
     ·rfl
    have hlt : ab < W.heap.size := by
     rcases Nat.lt_or_ge ab W.heap.size with h | h
     ·exact h
     ·exfalso
      unfold World.cell? at hc0
      rw [Array.getElem?_eq_none h] at hc0
      simp at hc0
    have hzl : ∀ x ∈ l.map e, x.length = z := fun x hx => by obtain ⟨y, _, rfl⟩ := List.mem_map.1 hx; exact hz1 y
    refine .sl ab ao len _ z (l.map e) (fun j => (W.cell? ⟨ab, ao + j, none⟩).getD undef) (by rw [List.length_map, hll]) hlc hlt hzl (fun j hj => ?_) (fun j u hu => ?_) (fun j u hu => ?_)
    ·obtain ⟨u, hu⟩ : ∃ u, (l.map e).flatten[j]? = some u := ⟨_, List.getElem?_eq_getElem (by rw [zbh hzl]; exact hj)⟩
     obtain ⟨c, h1, _⟩ := flat j u hu
     rw [hadd] at h1
     rw [h1]
     rfl
    ·obtain ⟨c, _, h2, _⟩ := flat j u hu
     exact h2
    ·obtain ⟨c, h1, _, h3⟩ := flat j u hu
     rw [hadd] at h1
     rw [h1]
     exact h3
def OpF (enc : TypeId × Value → H) (P : Program) (W : World) (Bw : Nat → Prop) (fs : List Field) (off tot : Nat) (e : α → List T) (Pr : α → Prop) : Prop :=
 ∀ n (xs : List Value) ys, xs.length = off + tot → fs.mapM (fun f => DataW.trod enc P W 0 (fun _ => true) true n f.type ((xs.drop f.offset).take (P.cellsOf f.type))) = some ys → (∀ q ∈ DataW.weightsEach P (fs.map (·.type)) (ys.map (·.1)), Bw q) → ∃ a, Pr a ∧ CsR W (xs.drop off) (e a)
theorem zfa {off : Nat} : OpF enc P W Bw [] off 0 (fun _ : Unit => []) fun _ => True := fun n xs ys hl _ _ =>
 ⟨(), trivial, by rw [List.drop_eq_nil_of_le (by omega)]; exact ⟨rfl, fun j t h => by simp at h⟩⟩
theorem zbE {f : Field} {fs : List Field} {off z tot : Nat} {e : α → List T} {e2 : β → List T} {Pr : α → Prop} {Pr2 : β → Prop} (ho : f.offset = off) (hz : P.cellsOf f.type = z) (he : Opn enc P W Bw f.type e Pr) (hr : OpF enc P W Bw fs (off + z) tot e2 Pr2) :
  OpF enc P W Bw (f :: fs) off (z + tot) (fun p : α × β => e p.1 ++ e2 p.2) fun p => Pr p.1 ∧ Pr2 p.2 := fun n xs ys hl h hB => by
 rw [List.mapM_cons] at h
 obtain ⟨y, hy, h⟩ := Option.bind_eq_some_iff.1 h
 obtain ⟨ys', hys, h⟩ := Option.bind_eq_some_iff.1 h
 obtain rfl : y :: ys' = ys := by simpa using h
 simp only [List.map_cons, DataW.weightsEach, List.mem_append] at hB
 rw [ho, hz] at hy
 have hlen : ((xs.drop off).take z).length = z := by rw [List.length_take, List.length_drop]; omega
 obtain ⟨a, ha, hca⟩ := he _ _ _ hy (by rw [hlen, hz]) (fun q hq => hB q (.inl hq))
 obtain ⟨b, hb, hcb⟩ := hr n xs ys' (by omega) hys (fun q hq => hB q (.inr hq))
 refine ⟨(a, b), ⟨ha, hb⟩, ?_⟩
 have := hca.app hcb
 rwa [← List.drop_drop, List.take_append_drop] at this
theorem zfb {t : TypeId} {fs : Array Field} {tot : Nat} {e : α → List T} {Pr : α → Prop} (ht : P.underlying t = some (.struct fs)) (hc : P.cellsOf t = tot) (hf : OpF enc P W Bw fs.toList 0 tot e Pr) : Opn enc P W Bw t e Pr := fun n xs y h hl hB => by
 cases n with
 | zero => simp [DataW.trod] at h
 | succ n =>
  unfold DataW.trod at h
  simp only [ht] at h
  rw [if_pos hl] at h
  obtain ⟨ys, hys, rfl⟩ := Option.map_eq_some_iff.1 h
  have := hf n xs ys (by rw [hl, hc, Nat.zero_add]) hys (by simpa only [DataW.weights, ht] using hB)
  rwa [List.drop_zero] at this
theorem Opn.to {t : TypeId} {e : α → List T} {e2 : β → List T} {Pr : α → Prop} {Pr2 : β → Prop} (h : Opn enc P W Bw t e Pr) (f : α → β) (hf : ∀ a, e a = e2 (f a)) (hp : ∀ a, Pr a → Pr2 (f a)) : Opn enc P W Bw t e2 Pr2 := fun n xs y ht hl hB => by
 obtain ⟨a, h1, h2⟩ := h n xs y ht hl hB
 exact ⟨f a, hp a h1, by rw [← hf]; exact h2⟩
theorem Opn.one {t : TypeId} {e : α → T} {Pr : α → Prop} (h : Opn enc P W Bw t (fun a => [e a]) Pr) (hc : P.cellsOf t = 1) {v : Value} (hv : v.cells = #[v]) {d : DataW H} {p : List MemPlace} (ht : DataW.Trod enc P W 0 (fun _ => true) true t v d p) (hB : ∀ q ∈ d.weights P t, Bw q) : ∃ a, Pr a ∧ Rt W (fun g => g < W.heap.size) v (e a) := by
 obtain ⟨n, hn⟩ := ht
 rw [hv] at hn
 obtain ⟨a, h1, h2⟩ := h n [v] _ hn hc.symm hB
 obtain ⟨c, h3, _, h4⟩ := h2.2 0 (e a) rfl
 cases h3
 exact ⟨a, h1, h4⟩
theorem Opn.sl {t e' : TypeId} {r : Reach} {b0 : Nat} {e : α → T} {Pr : α → Prop} (h : Opn enc P W Bw t (fun a => [e a]) Pr) (hu : P.underlying t = some (.slice e')) (hc : P.cellsOf t = 1) {v : Value} (hv : Value.okWide P W r b0 t v) {d : DataW H} {p : List MemPlace} (ht : DataW.Trod enc P W 0 (fun _ => true) true t v d p) (hB : ∀ q ∈ d.weights P t, Bw q) : ∃ a, Pr a ∧ Rt W (fun g => g < W.heap.size) v (e a) := by
 obtain ⟨a, len, cap, rfl⟩ := okWide_slice hu hv
 exact h.one hc rfl ht hB
theorem Opn.int {t : TypeId} {k : IntKind} {r : Reach} {b0 : Nat} (hu : P.underlying t = some (.int k)) (hc : P.cellsOf t = 1) {v : Value} (hv : Value.okWide P W r b0 t v) {d : DataW H} {p : List MemPlace} (ht : DataW.Trod enc P W 0 (fun _ => true) true t v d p) : ∃ n, (Lit.int k n).wf = true ∧ Rt W (fun g => g < W.heap.size) v (.i k n) := by
 obtain ⟨n, rfl⟩ := okWide_int hu hv
 exact (ze9 hu).one (e := fun n => T.i k n) hc rfl ht (Bw := fun _ => True) (fun _ _ => trivial)
theorem Opn.ag {t : TypeId} {fs : Array Field} {r : Reach} {b0 : Nat} {e : α → List T} {Pr : α → Prop} (h : Opn enc P W Bw t e Pr) (hu : P.underlying t = some (.struct fs)) {v : Value} (hv : Value.okWide P W r b0 t v) {d : DataW H} {p : List MemPlace} (ht : DataW.Trod enc P W 0 (fun _ => true) true t v d p) (hB : ∀ q ∈ d.weights P t, Bw q) : ∃ a, Pr a ∧ Rt W (fun g => g < W.heap.size) v (.ag (e a)) := by
 obtain ⟨cs, rfl, hz⟩ := okWide_struct hu hv
 obtain ⟨n, hn⟩ := ht
 obtain ⟨a, h1, h2⟩ := h n cs.toList _ hn (by simpa using hz) hB
 refine ⟨a, h1, .ag cs (e a) (fun j => cs.getD j undef) (by simpa using h2.1) (fun j hj => ?_) (fun j u hu => ?_) (fun j u hu => ?_)⟩
 ·have : j < cs.size := by have := h2.1; simp at this; omega
  simp [Array.getD_eq_getD_getElem?, this]
 ·obtain ⟨c, _, h3, _⟩ := h2.2 j u hu
  exact h3
 ·obtain ⟨c, h3, _, h4⟩ := h2.2 j u hu
  rw [show cs.getD j undef = c by simp at h3; simp [Array.getD_eq_getD_getElem?, h3]]
  exact h4
theorem Opn.bool {t : TypeId} {r : Reach} {b0 : Nat} (hu : P.underlying t = some .bool) (hc : P.cellsOf t = 1) {v : Value} (hv : Value.okWide P W r b0 t v) {d : DataW H} {p : List MemPlace} (ht : DataW.Trod enc P W 0 (fun _ => true) true t v d p) : ∃ b : Bool, True ∧ Rt W (fun g => g < W.heap.size) v (.b b) := by
 obtain ⟨b, rfl⟩ := okWide_bool hu hv
 exact (zgE hu).one (e := fun b => T.b b) hc rfl ht (Bw := fun _ => True) (fun _ _ => trivial)
theorem Opn.str {t : TypeId} {r : Reach} {b0 : Nat} (hu : P.underlying t = some .string) (hc : P.cellsOf t = 1) {v : Value} (hv : Value.okWide P W r b0 t v) {d : DataW H} {p : List MemPlace} (ht : DataW.Trod enc P W 0 (fun _ => true) true t v d p) : ∃ s : ByteArray, s.size ≤ maxLen ∧ Rt W (fun g => g < W.heap.size) v (.s s) := by
 obtain ⟨s, rfl⟩ := okWide_string hu hv
 exact (zgF hu).one (e := fun s => T.s s) hc rfl ht (Bw := fun _ => True) (fun _ _ => trivial)
theorem zgH {n : Int} (h : (Lit.int .i64 n).wf = true) : -9223372036854775808 ≤ n ∧ n ≤ 9223372036854775807 := by
 rw [Lit.wf_int_iff] at h
 rw [show IntKind.i64.min = -9223372036854775808 from by decide, show IntKind.i64.max = 9223372036854775807 from by decide] at h
 exact h
theorem zjN {f : FuncId} {args : List T} (h : Ct P (fun _ => True) f args [.b true]) (cargs : Array Value) (hsz : cargs.size = args.length) (harg : ∀ (j : Nat) v t, cargs[j]? = some v → args[j]? = some t → Rt W (fun g => g < W.heap.size) v t) :
  Calls P f cargs W fun e W' => e = .returned (.bool true) ∧ Below W.heap.size W W' :=
 (h.calls W cargs (fun _ _ => trivial) hsz harg).mono (fun e W' ⟨v, h1, h2, h3⟩ => by
  subst h1
  have h2 : Rt W' (fun g => g < W'.heap.size) v (.b true) := h2
  cases h2
  exact ⟨rfl, h3⟩)
end
end Go.Proofs.YtbhoeanfnbkenaaGreatDoor
namespace Go.Proofs.YtbhoeanfnbkenaaGreatDoor
open Go.RowKit
section
variable {P : Program} {Hy : World → Prop} {X : World → (Nat → Prop) → (Nat → O) → (Nat → Value) → Prop} {B : Nat} {St : Nat → Prop} {w0 w : World} {o : Nat → O} {ι : Nat → Value}
theorem Mem.nilRow (h : Mem Hy X B St w0 o ι w) (id g : Nat) (e : TypeId) (z : Nat) (hg : (o id).gen < g) :
  Mem Hy X B St w0 (fun j => if j = id then ⟨g, .row e z []⟩ else o j) (fun j => if j = id then .slice none 0 0 else ι j) w :=
 ((h.rel.next (w' := w) (ι' := fun j => if j = id then .slice none 0 0 else ι j) id ⟨g, .row e z []⟩ (.slice none 0 0) none .junk undef (Below.refl _ _) (fun i hi => if_neg hi) (if_pos rfl) (Nat.le_of_lt hg) (fun q => absurd q (Nat.ne_of_lt hg)) (fun _ _ _ => rfl)
  (fun b hb => by
   have : mb (S.ob ⟨0, fun _ => .junk, o⟩ id ⟨g, .row e z []⟩).o (fun j => if j = id then .slice none 0 0 else ι j) id = none := by
    unfold mb S.ob
    simp only [if_pos]
    rfl
   rw [this] at hb
   cases hb)
  (fun _ _ => ⟨fun _ hx => (by cases hx), [], World.ownsRow_nil _ _ _ _, fun j y hy => (by simp at hy)⟩)
  (fun _ _ hq => absurd rfl hq))).mem
theorem RresM.impI {D D' : Nat → Prop} {o o' : Nat → O} {ι ι' : Nat → Value} {v : Value} (mA : ∀ (v : Value) (z : A), Ra w D o ι v z → Ra w D' o' ι' v z) : ∀ {l : List A}, RresM w D o ι v l → RresM w D' o' ι' v l
 | [], ⟨cs, c, h1, h2, h3, h4⟩ => ⟨cs, c, h1, h2, h3, fun j x hx => mA _ _ (h4 j x hx)⟩
 | [_], h => mA _ _ h
 | _ :: _ :: _, ⟨cs, c, h1, h2, h3, h4⟩ => ⟨cs, c, h1, h2, h3, fun j x hx => mA _ _ (h4 j x hx)⟩
theorem zgI {o' : Nat → O} {ι' : Nat → Value} (h : ∀ X, Mem Hy X B St w0 o ι w → Mem Hy X B St w0 o' ι' w) (hM : Mem Hy X B St w0 o ι w) (v : Value) (x : A) (hx : Ra w (Sd B St o ι w) o ι v x) : Ra w (Sd B St o' ι' w) o' ι' v x := by
 obtain ⟨N, n1, _⟩ := hM.xc
 exact (h (fun w D o ι => Ra w D o ι v x) (hM.weak hx n1 fun _ _ _ _ _ _ _ _ _ mA _ _ h => mA _ _ h)).x
def obx (o : Nat → O) (id : Nat) (x : O) : Nat → O := fun j => if j = id then x else o j
theorem Mem.drop (h : Mem Hy X B St w0 o ι w) (id g : Nat) (hg : (o id).gen ≤ g) : Mem Hy X B St w0 (obx o id ⟨g, .none⟩) ι w :=
 (h.rel.next (w' := w) (ι' := ι) id ⟨g, .none⟩ (ι id) none .junk undef (Below.refl _ _) (fun _ _ => rfl) rfl hg (fun _ => rfl) (fun _ _ _ => rfl)
  (fun b hb => by
   have : mb (S.ob ⟨0, fun _ => .junk, o⟩ id ⟨g, .none⟩).o ι id = none := by
    unfold mb S.ob
    simp only [if_pos]
   rw [this] at hb
   cases hb)
  (fun _ _ => trivial) (fun _ _ hq => absurd rfl hq)).mem
theorem Stl.drop {id g : Nat} (hg : (o id).gen ≤ g) : Stl o (obx o id ⟨g, .none⟩) := fun _ _ _ _ _ _ _ h =>
 ⟨h.drop id g hg, zgI (fun _ h => h.drop id g hg) h⟩
theorem Mem.nilCell (h : Mem Hy X B St w0 o ι w) {c j id g z : Nat} {e ty : TypeId} {l : List A} (hc : (o c).k = .cells ty l) (hj : l[j]? = some .nilS) (hne : id ≠ c) (hg : (o id).gen < g) :
  ∃ ι', Mem Hy X B St w0 (obx (obx o id ⟨g, .row e z []⟩) c ⟨(o c).gen, .cells ty (l.set j (.row id g))⟩) ι' w ∧ ∀ (v : Value) (x : A), Ra w (Sd B St o ι w) o ι v x → Ra w (Sd B St (obx (obx o id ⟨g, .row e z []⟩) c ⟨(o c).gen, .cells ty (l.set j (.row id g))⟩) ι' w) (obx (obx o id ⟨g, .row e z []⟩) c ⟨(o c).gen, .cells ty (l.set j (.row id g))⟩) ι' v x := by
 have go : ∀ X, Mem Hy X B St w0 o ι w → Mem Hy X B St w0 (obx (obx o id ⟨g, .row e z []⟩) c ⟨(o c).gen, .cells ty (l.set j (.row id g))⟩) (fun j => if j = id then .slice none 0 0 else ι j) w := fun X h => by
  have h1 := h.nilRow id g e z hg
  have hoc : (obx o id ⟨g, .row e z []⟩ c) = o c := if_neg (Ne.symm hne)
  have hob := h1.ob c
  change Ob B w _ (obx o id ⟨g, .row e z []⟩) _ _ (obx o id ⟨g, .row e z []⟩ c).k at hob
  rw [hoc, hc] at hob
  obtain ⟨blk, cs, h2, h3, h4, h5, h6⟩ := hob
  refine (h1.rel.next (w' := w) (ι' := fun j => if j = id then .slice none 0 0 else ι j) c ⟨(o c).gen, .cells ty (l.set j (.row id g))⟩ _ none .junk undef (Below.refl _ _) (fun _ _ => rfl) rfl (by
   show (obx o id ⟨g, .row e z []⟩ c).gen ≤ _
   rw [hoc]
   exact Nat.le_refl _) (fun _ => rfl) (fun _ _ _ => rfl) (fun b hb => .inl ?_) (fun _ mA => ?_) (fun _ _ hq => absurd rfl hq)).mem
  ·unfold mb S.ob at hb
   simp only [if_pos] at hb
   unfold mb
   change (match (obx o id ⟨g, .row e z []⟩ c).k with | .cells _ _ => _ | .row _ _ _ => _ | .rowA _ _ _ => _ | .map _ _ => _ | _ => none) = some b
   rw [hoc, hc]
   exact hb
  ·refine ⟨blk, cs, h2, h3, h4, by rw [List.length_set]; exact h5, fun i y hy => ?_⟩
   rw [List.getElem?_set] at hy
   by_cases hji : j = i
   ·subst hji
    obtain ⟨x, x1, _, x3⟩ := h6 j _ hj
    have hjl := (List.getElem?_eq_some_iff.1 hj).1
    rw [if_pos rfl, if_pos hjl] at hy
    cases hy
    refine ⟨x, x1, rfl, ?_⟩
    obtain rfl := Ra.nil_get x3
    have hid : ((S.ob ⟨0, fun _ => .junk, fun j => if j = id then ⟨g, .row e z []⟩ else o j⟩ c ⟨(o c).gen, .cells ty (l.set j (.row id g))⟩).o id) = ⟨g, .row e z []⟩ := by
     unfold S.ob
     simp only [if_neg hne, if_pos]
    exact .row (by rw [hid]; exact Nat.le_refl _) (fun _ => (if_pos rfl).symm) rfl
   ·rw [if_neg hji] at hy
    obtain ⟨x, x1, x2, x3⟩ := h6 i _ hy
    exact ⟨x, x1, x2, mA _ _ x3⟩
 exact ⟨_, go X h, zgI go h⟩
theorem Cm.nilCell {f : FuncId} {args : List A} {R R' : List A → (Nat → O) → Prop} (h : Cm P Hy f args o R)
  (hr : ∀ rs o', R rs o' → ∃ (c j id g z : Nat) (e ty : TypeId) (l : List A), (o' c).k = .cells ty l ∧ l[j]? = some .nilS ∧ id ≠ c ∧ (o' id).gen < g ∧ R' rs (obx (obx o' id ⟨g, .row e z []⟩) c ⟨(o' c).gen, .cells ty (l.set j (.row id g))⟩)) : Cm P Hy f args o R' :=
 ⟨h.fn, fun X B St w0 ι w cargs hM hs ha => (h.go X B St w0 ι w cargs hM hs ha).mono (fun _ _ ⟨v, ι', o', rs, h1, h2, h3, h4⟩ => by
  obtain ⟨c, j, id, g, z, e, ty, l, k1, k2, k3, k4, k5⟩ := hr _ _ h2
  obtain ⟨ι2, m1, m2⟩ := h3.nilCell (e := e) (z := z) k1 k2 k3 k4
  exact ⟨v, ι2, _, rs, h1, k5, m1, RresM.impI m2 h4⟩)⟩
theorem Cm.nilRow {f : FuncId} {args : List A} {R R' : List A → (Nat → O) → Prop} (h : Cm P Hy f args o R)
  (hr : ∀ rs o', R rs o' → R' rs o' ∨ (rs = [.nilS] ∧ ∃ id g e z, (o' id).gen < g ∧ R' [.row id g] fun j => if j = id then ⟨g, .row e z []⟩ else o' j)) : Cm P Hy f args o R' :=
 ⟨h.fn, fun X B St w0 ι w cargs hM hs ha => (h.go X B St w0 ι w cargs hM hs ha).mono (fun _ _ ⟨v, ι', o', rs, h1, h2, h3, h4⟩ => by
  rcases hr _ _ h2 with hr | ⟨rfl, id, g, e, z, hg, hr⟩
  ·exact ⟨v, ι', o', rs, h1, hr, h3, h4⟩
  ·refine ⟨v, _, _, _, h1, hr, h3.nilRow id g e z hg, ?_⟩
   obtain rfl := Ra.nil_get h4
   exact .row (by simp) (fun _ => by simp) rfl)⟩
end
section
variable {P : Program} {Hy : World → Prop}
structure Nearly (o2 : Nat → O) (own : List Nat) (c : Nat) (up : List (Nat × O)) (o' : Nat → O) : Prop where
 eq : ∀ j, j ∉ own → o' j = zae up j (o2 j)
 gen : ∀ j ∈ own, (o' j).gen ≤ (o2 j).gen + c
theorem Stl.dropL {o2 : Nat → O} {c : Nat} {o : Nat → O} : ∀ (own : List Nat), (∀ j ∈ own, (o j).gen ≤ (o2 j).gen + c) → Stl o (fun j => if j ∈ own then ⟨(o2 j).gen + c, .none⟩ else o j)
 | [], _ => by
  simp only [List.not_mem_nil, if_false]
  exact Stl.refl
 | i :: l, h => by
  refine (Stl.dropL l fun j hj => h j (List.mem_cons_of_mem _ hj)).trans ?_
  have hd := Stl.drop (o := fun j => if j ∈ l then ⟨(o2 j).gen + c, .none⟩ else o j) (id := i) (g := (o2 i).gen + c) (by
   show (if i ∈ l then _ else o i : O).gen ≤ _
   split
   ·exact Nat.le_refl _
   ·exact h i List.mem_cons_self)
  refine (congrArg (Stl _) (funext fun j => ?_)).mp hd
  show (if j = i then _ else if j ∈ l then _ else o j) = if j ∈ i :: l then _ else o j
  by_cases hj : j = i
  ·subst hj
   rw [if_pos rfl, if_pos List.mem_cons_self]
  ·rw [if_neg hj]
   by_cases hl : j ∈ l
   ·rw [if_pos hl, if_pos (List.mem_cons_of_mem _ hl)]
   ·rw [if_neg hl, if_neg (fun h => (List.mem_cons.1 h).elim hj hl)]
theorem zgJ {o2 : Nat → O} {c : Nat} {up : List (Nat × O)} {d : O} {j : Nat} : ∀ (own : List Nat), zae (own.map (fun i => (i, ⟨(o2 i).gen + c, .none⟩)) ++ up) j d = if j ∈ own then ⟨(o2 j).gen + c, .none⟩ else zae up j d
 | [] => by simp
 | i :: l => by
  show (if j = i then _ else _) = _
  by_cases hj : j = i
  ·subst hj
   rw [if_pos rfl, if_pos List.mem_cons_self]
  ·refine (if_neg hj).trans ((zgJ (up := up) (d := d) l).trans ?_)
   by_cases hl : j ∈ l
   ·rw [if_pos hl, if_pos (List.mem_cons_of_mem _ hl)]
   ·rw [if_neg hl, if_neg (fun h => (List.mem_cons.1 h).elim hj hl)]
theorem Cm.near {f : FuncId} {args : List A} {o2 : Nat → O} {own : List Nat} {c : Nat} {up : List (Nat × O)} {y : A} (h : Cm P Hy f args o2 fun rs o' => zbe rs = y ∧ Nearly o2 own c up o') :
  Cm P Hy f args o2 fun rs o' => zbe rs = y ∧ o' = fun j => zae (own.map (fun i => (i, ⟨(o2 i).gen + c, .none⟩)) ++ up) j (o2 j) :=
 h.settle fun rs o' ⟨hr, hn⟩ => ⟨_, Stl.dropL own hn.gen, hr, funext fun j => by
  rw [zgJ]
  split
  ·rfl
  ·exact hn.eq j (by assumption)⟩
end
theorem zcH {E : Env} {P : Program} {tt : Tys} {Hy : World → Prop} {cls : Nat → Nat} {ops os : List Oper} {o : Oper} {s : S} {K : S → Prop} {R W : List Nat} (h : ∀ K' : S → Prop, (∀ s', zU P Hy tt cls E ops os s' K → K' s') → opD P Hy ops o s R W K') : zU P Hy tt cls E ops (o :: os) s K :=
 zaj fun K' hK => zhZ (h K' hK)
section
variable {P : Program} {Hy : World → Prop}
theorem zgK {ty : TypeId} {name : String} {f : FuncId} (hm : ∀ (a : Addr) (w : World), (method (P.types.size + Made.depth) ty (.pointer (some a)) name).run P w = .ok (f, .pointer (some a)) w) {o : Nat → O} {id g off : Nat} (hg : g = (o id).gen) : Mth P Hy ty (.ptr id g off) o name f (.ptr id g off) := by
 intro X B St w0 ι w v hM hx
 obtain ⟨blk, _, rfl⟩ := hx.ptr_get hg
 exact ⟨_, hm _ _, hx⟩
theorem zfc {ty : TypeId} {name : String} {f : FuncId} (hm : ∀ (a : Addr) (w : World) (v : Value), w.cell? a = some v → (method (P.types.size + Made.depth) ty (.pointer (some a)) name).run P w = .ok (f, v) w) {o : Nat → O} {id g off : Nat} {y : A} {ty' : TypeId} {l : List A}
  (hg : g = (o id).gen) (hk : (o id).k = .cells ty' l) (hy : l[off]? = some y) : Mth P Hy ty (.ptr id g off) o name f y := by
 intro X B St w0 ι w v hM hx
 obtain ⟨blk, hi, rfl⟩ := hx.ptr_get hg
 have ho := hM.ob id
 rw [hk] at ho
 obtain ⟨blk', cs, h1, h2, h3, h4, h5⟩ := ho
 rw [hi] at h1
 cases h1
 obtain ⟨c, hc, _, hr⟩ := h5 off y hy
 refine ⟨c, hm _ _ _ ?_, hr⟩
 rw [cell_of_row w blk off cs ty' (0, 0) h3]
 exact hc
end
end Go.Proofs.YtbhoeanfnbkenaaGreatDoor
