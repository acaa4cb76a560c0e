import Derived.Test.YtbhoeanfnbkenaaGreatDoorEng14
import Derived.RecoverIn
namespace Go.Proofs.YtbhoeanfnbkenaaGreatDoor
open Go.RowKit
section
variable {P : Program} {tt : Tys} {Hy : World → Prop} {X : World → (Nat → Prop) → (Nat → O) → (Nat → Value) → Prop} {cls : Nat → Nat} {B : Nat} {St : Nat → Prop} {Dp : List Deferred → Prop} {w0 w : World} {s : S} {ι : Nat → Value} {a : Act}
def zU (P : Program) (Hy : World → Prop) (tt : Tys) (cls : Nat → Nat) (E : Env) (ops : List Oper) : List Oper → S → (S → Prop) → Prop
 | [], s, K => K s
 | o :: os, s, K => zez P Hy tt cls E ops o s fun s' => zU P Hy tt cls E ops os s' K
theorem zha {ro : Option Nat} {nn : Nat} {E : Env} (hT : Tys.ok P tt) {Q : Exit → Act → World → Prop} (hY : YH P Hy X B St w0 Dp ro nn E) (hP : zdh Hy X B St w0 Dp E Q) (ops : Array Oper) : ∀ (n k : Nat) {s : S} {ι : Nat → Value} {a : Act} {w : World} {K : S → Prop}, k + n = ops.size → Rel Hy X B St w0 Dp s ι a w → Sim Hy X B St w0 Dp K (Q .normal) →
  zU P Hy tt cls E ops.toList (ops.toList.drop k) s K → wpOpsIn (FW ro) nn P ops Q ((List.range n).map (k + ·)) a w
 | 0, k, s, ι, a, w, K, hk, h, hs, hr => by
  rw [List.drop_eq_nil_of_le (by simp; omega)] at hr
  exact hs _ _ _ _ h hr
 | n + 1, k, s, ι, a, w, K, hk, h, hs, hr => by
  have hlt : k < ops.size := by omega
  rw [List.range_succ_eq_map, List.map_cons, List.map_map, wpOpsIn_cons, Nat.add_zero]
  rw [List.drop_eq_getElem_cons (by simpa using hlt)] at hr
  have : ((k + ·) ∘ Nat.succ : Nat → Nat) = ((k + 1) + ·) := by funext j; simp; omega
  rw [this]
  exact zh2 hT hY hP h (Array.getElem?_eq_getElem hlt) (fun s' ι' a' w' h' hk' => zha hT hY hP ops n (k + 1) (by omega) h' hs hk') hr
section
variable {o : Nat → O}
theorem Mem.rel (h : Mem Hy X B St w0 o ι w) : Rel Hy X B St w0 (fun _ => True) ⟨0, fun _ => .junk, o⟩ ι { tmps := #[], defers := [] } w :=
 ⟨h.below, h.hB, h.ob, h.inj, fun _ _ _ => .junk, trivial, rfl, h.stB, h.hy, h.x, by obtain ⟨N, n1, n2⟩ := h.xc; exact ⟨N, [], n1, n2, DefIs.nil, List.nodup_nil, fun D hD => (by cases hD)⟩⟩
theorem Mem.oput (h : Mem Hy X B St w0 o ι w) {N D : Nat} {ob ob' : Obj} (n2 : XC X N) (n1 : N ≤ w.heap.size) (d1 : N ≤ D) (d2 : B ≤ D) (hD : w.heap[D]? = some ob) (hoth : Oth ob) :
  Mem Hy X B St w0 o ι (w.putObj D ob') ∧ ∀ (v : Value) (z : A), Ra w (Sd B St o ι w) o ι v z → Ra (w.putObj D ob') (Sd B St o ι (w.putObj D ob')) o ι v z := by
 have ne : ∀ id, mb o ι id ≠ some D := h.rel.oth hoth hD
 have hk : ∀ b, b ≠ D → (w.putObj D ob').heap[b]? = w.heap[b]? := fun b hb => World.putObj_heap_other hb
 have hz : (w.putObj D ob').heap.size = w.heap.size := World.putObj_size
 have hc : ∀ p c, w.cell? p = some c → (w.putObj D ob').cell? p = some c := fun p c hp => by
  by_cases hb : p.block = D
  ·exfalso
   unfold World.cell? at hp
   rw [hb, hD] at hp
   cases ob with
   | cells cs ty z => exact hoth.1 _ _ _ rfl
   | _ => cases hp
  ·rw [World.cell?_of_block (hk _ hb)]
   exact hp
 have hd : ∀ g, Sd B St o ι w g → Sd B St o ι (w.putObj D ob') g := fun g hg => ⟨hg.1, by rw [hz]; exact hg.2.1, hg.2.2⟩
 generalize hw : w.putObj D ob' = w' at *
 have mT : ∀ (v : Value) (t : T), Rt w (Sd B St o ι w) v t → Rt w' (Sd B St o ι w') v t := fun v t ht => ht.mono2 hd hc
 have mA : ∀ (v : Value) (z : A), Ra w (Sd B St o ι w) o ι v z → Ra w' (Sd B St o ι w') o ι v z := fun v z hz => hz.mono2 hd hc
 have hbl : Below B w w' := ⟨by rw [← hw]; rfl, by rw [← hw]; rfl, by rw [← hw]; rfl, Nat.le_of_eq hz.symm, fun b hb => hk b (by omega)⟩
 refine ⟨⟨h.below.trans hbl, Nat.le_trans h.hB (Nat.le_of_eq hz.symm), fun id => ?_, h.inj, h.stB, h.hy, n2 _ _ _ _ _ _ _ _ mT mA (Nat.le_of_eq hz.symm) (fun b ob hb ho e => (hk b (by omega)).trans e) h.x, N, by omega, n2⟩, mA⟩
 have hob := h.ob id
 have same : ∀ b, mb o ι id = some b → w'.heap[b]? = w.heap[b]? := fun b e => hk b (fun e2 => ne id (by rw [e, e2]))
 cases hkk : (o id).k with
 | none => exact trivial
 | ro l => rw [hkk] at hob; exact mT _ _ hob
 | cells ty l =>
  rw [hkk] at hob
  obtain ⟨blk, cs, h1, h2, h3, h4, h5⟩ := hob
  refine ⟨blk, cs, h1, h2, ?_, h4, fun j y hy => ?_⟩
  ·rw [same blk (by unfold mb; rw [hkk, h1]; rfl)]
   exact h3
  ·obtain ⟨c, hc, hl, hr⟩ := h5 j y hy
   exact ⟨c, hc, hl, mA _ _ hr⟩
 | row ty z l =>
  rw [hkk] at hob
  obtain ⟨h1, xs, h2, h3⟩ := hob
  refine ⟨h1, xs, ⟨h2.1, ?_⟩, fun j y hy => ?_⟩
  ·rcases h2.2 with h4 | ⟨g, cap, cur, hv, hb2, hg2, rest⟩
   ·exact .inl h4
   ·refine .inr ⟨g, cap, cur, hv, hb2, ?_, rest⟩
    rw [same g (by unfold mb; rw [hkk, hv]; rfl)]
    exact hg2
  ·obtain ⟨c, hc, hl, hr⟩ := h3 j y hy
   exact ⟨c, hc, hl, mT _ _ hr⟩
 | rowA ty z l =>
  rw [hkk] at hob
  obtain ⟨h1, xs, h2, h3⟩ := hob
  refine ⟨h1, xs, ⟨h2.1, ?_⟩, fun j y hy => ?_⟩
  ·rcases h2.2 with h4 | ⟨g, cap, cur, hv, hb2, hg2, rest⟩
   ·exact .inl h4
   ·refine .inr ⟨g, cap, cur, hv, hb2, ?_, rest⟩
    rw [same g (by unfold mb; rw [hkk, hv]; rfl)]
    exact hg2
  ·obtain ⟨c, hc, hl, hr⟩ := h3 j y hy
   exact ⟨c, hc, hl, mA _ _ hr⟩
 | map ks l =>
  rw [hkk] at hob
  obtain ⟨blk, es, ck, h1, h2, h3, h4, h5, h6, h7⟩ := hob
  refine ⟨blk, es, ck, h1, h2, ?_, h4, h5, h6, fun j y hy => ?_⟩
  ·rw [same blk (by unfold mb; rw [hkk, h1]; rfl)]
   exact h3
  ·obtain ⟨c, hc, hk2, hl, hr⟩ := h7 j y hy
   exact ⟨c, hc, hk2, hl, mA _ _ hr⟩
theorem Mem.weak (h : Mem Hy X B St w0 o ι w) {X' : World → (Nat → Prop) → (Nat → O) → (Nat → Value) → Prop} (hx : X' w (Sd B St o ι w) o ι) {N : Nat} (n1 : N ≤ w.heap.size) (n2 : XC X' N) : Mem Hy X' B St w0 o ι w := ⟨h.below, h.hB, h.ob, h.inj, h.stB, h.hy, hx, N, n1, n2⟩
end
structure ItC (P : Program) (Hy : World → Prop) (gf : FuncId) (lb : List A) (o : Nat → O) (ids : List Nat) (ls : List (List T)) : Prop where
 fn : ∃ fn, P.funcs[gf]? = some fn ∧ fn.name ≠ "runtime.NumGoroutine" ∧ fn.body ≠ none
 go : ∀ (B : Nat) (St : Nat → Prop) (w0 : World) (ι : Nat → Value) (w : World) (cl : Array Value), Mem Hy (fun _ _ _ _ => True) B St w0 o ι w → cl.size = lb.length → (∀ (j : Nat) x, lb[j]? = some x → ∃ v, cl[j]? = some v ∧ Ra w (Sd B St o ι w) o ι v x) →
  ∀ (l n : Nat) (J : Nat → World → Prop),
   (∀ i W, J i W → ∃ o1 ι1, Mem Hy (fun _ _ _ _ => True) B St w0 o1 ι1 W ∧ (∀ id ∈ ids, o1 id = o id) ∧ ∀ (v : Value) (x : A), Ra w (Sd B St o ι w) o ι v x → Ra W (Sd B St o1 ι1 W) o1 ι1 v x) →
   (∀ i W W', J i W → Below W.heap.size W W' → J i W') →
   (∀ i x W (cx : Array Value), J i W → ls[i]? = some x → cx.size = x.length → (∀ (j : Nat) v t, cx[j]? = some v → x[j]? = some t → ∀ W' D', Rt W' D' v t) → YieldAt (FW none) n P l cx W fun e W' => e = .returned (.bool true) ∧ J (i + 1) W') →
   J 0 w → CallsIn (FW none) (n + 1) P gf (#[.func (.yield l) #[] #[]] ++ cl) w fun e W' => (∃ v, e = .returned v) ∧ J ls.length W'
def zc8 (s : S) (o : Nat → O) (ps : List Tmp) (x : List T) : S := (ps.zip x).foldl (fun s p => s.put (some p.1) (.t p.2)) ⟨s.n, s.t, o⟩
theorem zhb {D : Nat → Prop} {o : Nat → O} : ∀ (pl : List Tmp) (cl : List Value) (xl : List T) (tm : Array Value) (s : S), cl.length = xl.length → (∀ (t : Nat) v, tm[t]? = some v → Ra w D o ι v (s.t t)) → (∀ (j : Nat) v x, cl[j]? = some v → xl[j]? = some x → Rt w D v x) →
  (∀ (t : Nat) v, ((pl.zip cl).foldl (fun t (p : Tmp × Value) => t.setIfInBounds p.1 p.2) tm)[t]? = some v → Ra w D o ι v (((pl.zip xl).foldl (fun s p => s.put (some p.1) (.t p.2)) s).t t)) ∧
  ((pl.zip cl).foldl (fun t (p : Tmp × Value) => t.setIfInBounds p.1 p.2) tm).size = tm.size ∧ ((pl.zip xl).foldl (fun s p => s.put (some p.1) (.t p.2)) s).n = s.n ∧ ((pl.zip xl).foldl (fun s p => s.put (some p.1) (.t p.2)) s).o = s.o
 | [], _, _, _, _, _, h, _ => ⟨by simpa using h, rfl, rfl, rfl⟩
 | _ :: _, [], [], _, _, _, h, _ => ⟨by simpa using h, rfl, rfl, rfl⟩
 | p :: pl, c :: cl, x :: xl, tm, s, hl, h, hr => by
  obtain ⟨g1, g2, g3, g4⟩ := zhb pl cl xl (tm.setIfInBounds p c) (s.put (some p) (.t x)) (by simpa using hl) (fun t v e => by
   rw [Array.getElem?_setIfInBounds] at e
   show Ra w D o ι v (if t = p then .t x else s.t t)
   by_cases ht : p = t
   ·rw [if_pos ht.symm]
    rw [if_pos ht] at e
    split at e
    ·cases e
     exact .t (hr 0 c x rfl rfl)
    ·cases e
   ·rw [if_neg (fun e => ht e.symm)]
    rw [if_neg ht] at e
    exact h t v e) (fun j v x hv hx => hr (j + 1) v x (by simpa using hv) (by simpa using hx))
  exact ⟨g1, by rw [List.zip_cons_cons, List.foldl_cons, g2]; simp, g3, g4⟩
theorem XC.true_ : XC (fun _ _ _ _ => True) 0 := fun _ _ _ _ _ _ _ _ _ _ _ _ h => h
theorem zb9 (r : Loop) : Oth (.loop r) := ⟨fun _ _ _ e => (by cases e), fun _ _ e => (by cases e)⟩
theorem zke (h : Rel Hy X B St w0 Dp s ι a w) (hDp : ∀ D d, Dp d → Dp (mark D :: d)) {g : Operand} {ps : Array Tmp} {assign body : Code} {gf : FuncId} {lb : List A} {ids : List Nat} {ls : List (List T)} {Inv : Nat → (Nat → O) → Prop} {Q' : Exit → Act → World → Prop} {nn : Nat}
  (hg : s.ev g = .fn gf [] lb) (it : ItC P Hy gf lb s.o ids ls) (hps : ∀ x ∈ ls, x.length = ps.size) (h0 : Inv 0 s.o) (hids : ∀ i o', Inv i o' → ∀ id ∈ ids, o' id = s.o id)
  (hround : ∀ (l m : Nat) (X2 : World → (Nat → Prop) → (Nat → O) → (Nat → Value) → Prop) (i : Nat) (x : List T) (o' : Nat → O) (ι' : Nat → Value) (a' : Act) (w' : World), ls[i]? = some x → Inv i o' → Rel Hy X2 B St w0 (fun d => d = []) (zc8 s o' ps.toList x) ι' a' w' →
   assign.wpIn (FW (some l)) m P (fun e a1 w1 => e = .normal ∧ ∃ s1 ι1, Rel Hy X2 B St w0 (fun d => d = []) s1 ι1 a1 w1 ∧ ∀ (X3 : World → (Nat → Prop) → (Nat → O) → (Nat → Value) → Prop) (w2 : World), Rel Hy X3 B St w0 (fun d => d = []) s1 ι1 a1 w2 →
    body.wpIn (FW (some l)) m P (fun e a2 w3 => e = .normal ∧ ∃ s2 ι2, Rel Hy X3 B St w0 (fun d => d = []) s2 ι2 a2 w3 ∧ Inv (i + 1) s2.o) a1 w2) a' w')
  (hend : ∀ (o' : Nat → O) (ι' : Nat → Value) (a' : Act) (w' : World), Inv ls.length o' → Rel Hy X B St w0 Dp ⟨s.n, s.t, o'⟩ ι' a' w' → Q' .normal a' w') :
  (Code.rangeFunc g ps assign body).wpIn (FW none) nn P Q' a w := by
 obtain ⟨N, L, n1, n2, n3, n4, n5⟩ := h.xd
 have hx := h.ev g
 rw [hg] at hx
 obtain ⟨cs, cl, hv, ha1, ha2⟩ := hx.fn_get
 have hcs : cs = #[] := Array.eq_empty_of_size_eq_zero (by simpa using ha1.1)
 subst hcs
 obtain ⟨fn0, f1, f2, f3⟩ := it.fn
 have eg : ∀ (args : Array Value) (w : World), (callFunc gf args).run P w = .ok (.enter gf args) w := fun args w => by simp [callFunc, f1, f2, f3]
 refine wpIn_rangeFunc fun fn hfn => ?_
 rw [show (FW none).round = none from rfl]
 obtain ⟨D, hD⟩ : ∃ D, w.heap.size = D := ⟨_, rfl⟩
 obtain ⟨rec, hrec⟩ : ∃ rec : LoopState → Option Code → Loop, ∀ st pe, rec st pe = { state := st, pending := pe, fn, tmps := a.tmps, params := ps, assign, body, defers := D } := ⟨fun st pe => { state := st, pending := pe, fn, tmps := a.tmps, params := ps, assign, body, defers := D }, fun _ _ => rfl⟩
 have hW1 := run_enterLoop_outer (P := P) (w := w) fn a.tmps ps assign body
 rw [hD, ← hrec] at hW1
 have hKd : (w.alloc (.deferred (some []))).heap[D]? = some (.deferred (some [])) := by rw [← hD]; exact World.alloc_heap_new w _
 have hsz : (w.alloc (.deferred (some []))).heap.size = D + 1 := by rw [World.size_alloc, hD]
 have hL1 : ((w.alloc (.deferred (some []))).alloc (.loop (rec .ready none))).heap[D + 1]? = some (.loop (rec .ready none)) := by
  rw [← hsz]; exact World.alloc_heap_new _ _
 have hK1 : ((w.alloc (.deferred (some []))).alloc (.loop (rec .ready none))).heap[D]? = some (.deferred (some [])) :=
  (Below.heap_alloc _ _ _ (by rw [hsz]; omega)).trans hKd
 have hb1 : Below w.heap.size w ((w.alloc (.deferred (some []))).alloc (.loop (rec .ready none))) :=
  ((Below.refl _ w).alloc (by omega) _).alloc (by omega) _
 have hsz1 : ((w.alloc (.deferred (some []))).alloc (.loop (rec .ready none))).heap.size = D + 2 := by rw [World.size_alloc, hsz]
 generalize hWe : (w.alloc (.deferred (some []))).alloc (.loop (rec .ready none)) = W1 at *
 have hR1 : Rel Hy X B St w0 Dp s ι a W1 := h.keep hb1 none .junk undef (fun e => absurd rfl e)
 have mA1 : ∀ (v : Value) (z : A), Ra w (Sd B St s.o ι w) s.o ι v z → Ra W1 (Sd B St s.o ι W1) s.o ι v z := fun v z hz => hz.mono (fun g hg => ⟨⟨hg.1, Nat.lt_of_lt_of_le hg.2.1 hb1.size, hg.2.2⟩, hb1.block g hg.2.1⟩) (fun id => ⟨Nat.le_refl _, fun _ => rfl⟩)
 have hLD : ∀ E ∈ L, E < D := fun E hE => by
  have := (Array.getElem?_eq_some_iff.1 (n5 E hE).2.2).1
  omega
 obtain ⟨X0, hX0e⟩ : ∃ X0 : World → (Nat → Prop) → (Nat → O) → (Nat → Value) → Prop, X0 = fun W Dd o' ι' => X W Dd o' ι' ∧ (∀ (v : Value) (z : A), Ra W1 (Sd B St s.o ι W1) s.o ι v z → Ra W Dd o' ι' v z) ∧ (∀ E ∈ D :: L, W.heap[E]? = some (.deferred (some []))) ∧ D + 2 ≤ W.heap.size := ⟨_, rfl⟩
 have hX0 : XC X0 (D + 1) := fun w1 D1 o1 ι1 w2 D2 o2 ι2 mT mA hz hk hx => by
  rw [hX0e] at hx ⊢
  obtain ⟨x1, x2, x3, x4⟩ := hx
  refine ⟨n2 _ _ _ _ _ _ _ _ mT mA hz (fun b ob hb => hk b ob (by omega)) x1, fun v z hr => mA _ _ (x2 v z hr), fun E hE => hk E _ ?_ (zdr _) (x3 E hE), by omega⟩
  rcases List.mem_cons.1 hE with rfl | hE
  ·omega
  ·have := hLD E hE; omega
 have hXr : ∀ r : Loop, XC (fun W Dd o' ι' => X0 W Dd o' ι' ∧ W.heap[D + 1]? = some (.loop r)) (D + 2) := fun r w1 D1 o1 ι1 w2 D2 o2 ι2 mT mA hz hk hx =>
  ⟨hX0 _ _ _ _ _ _ _ _ mT mA hz (fun b ob hb => hk b ob (by omega)) hx.1, hk (D + 1) _ (by omega) (zb9 r) hx.2⟩
 have hBD : B ≤ D := by rw [← hD]; exact h.hB
 have hM1 : Mem Hy X0 B St w0 s.o ι W1 := hR1.mem.weak (by
  rw [hX0e]
  refine ⟨hR1.x, fun v z hz => hz, fun E hE => ?_, by omega⟩
  rcases List.mem_cons.1 hE with rfl | hE
  ·exact hK1
  ·exact (hb1.block E (by rw [hD]; exact hLD E hE)).trans (n5 E hE).2.2) (N := D + 1) (by omega) hX0
 refine ⟨D + 1, [mark D], W1, { target := .fn (.func gf) cl, args := #[.func (.yield (D + 1)) #[] #[]] }, W1, gf, #[.func (.yield (D + 1)) #[] #[]] ++ cl, W1, hW1, ?_, fun f' _ => zc7 f', ?_, fun e => (by rw [zdH] at e; cases e), ?_⟩
 ·simp only [resolve, hv]; simp [go_sem]
 ·simp [invoke, go_sem, eg]
 have hMt : ∀ {o' : Nat → O} {ι' : Nat → Value} {W : World}, Mem Hy X0 B St w0 o' ι' W → Mem Hy (fun _ _ _ _ => True) B St w0 o' ι' W := fun hM => hM.weak trivial (N := 0) (Nat.zero_le _) XC.true_
 have hcall := it.go B St w0 ι W1 cl (hMt hM1) ha2.1 (fun j x hx => by
   obtain ⟨c, hc, hr⟩ := ha2.2 j x hx
   exact ⟨c, hc, mA1 _ _ hr⟩) (D + 1) (nn - 1)
  (fun i W => ∃ o' ι', Inv i o' ∧ Mem Hy X0 B St w0 o' ι' W ∧ W.heap[D + 1]? = some (.loop (rec .ready none)))
  (fun i W ⟨o', ι', hi, hM, _⟩ => ⟨o', ι', hMt hM, hids i o' hi, (by have := hM.x; rw [hX0e] at this; exact this.2.1)⟩)
  (fun i W W' ⟨o', ι', hi, hM, hl⟩ hb => ⟨o', ι', hi, (hM.rel.keep hb none .junk undef (fun e => absurd rfl e)).mem, (hb.block _ (Array.getElem?_eq_some_iff.1 hl).1).trans hl⟩)
  ?_ ⟨s.o, ι, h0, hM1, hL1⟩
 ·refine (zdI.2 (zdI.1 hcall)).mono ?_
  rintro e W2 ⟨⟨v, rfl⟩, o', ι', hi, hM, hl⟩
  have he := run_endLoop (P := P) hl (by rw [hrec]; simp)
  rw [show (rec .ready none).pending = none from by rw [hrec]] at he
  obtain ⟨r', he⟩ : ∃ r', (Instr.endLoop (D + 1)).run P W2 = .ok none (W2.putObj (D + 1) (.loop r')) := ⟨_, he⟩
  refine ⟨none, _, he, hend o' ι' _ _ hi ?_⟩
  obtain ⟨hM4, _⟩ := hM.oput (ob' := .loop r') hX0 (by have := hM.x; rw [hX0e] at this; have := this.2.2.2; omega) (Nat.le_refl _) (by omega) hl (zb9 _)
  have hx4 := hM4.x
  rw [hX0e] at hx4
  obtain ⟨x1, x2, x3, x4⟩ := hx4
  refine ⟨hM4.below, hM4.hB, hM4.ob, hM4.inj, fun t v e => x2 _ _ (mA1 _ _ (h.tm t v e)), hDp _ _ h.dv, h.sz, hM4.stB, hM4.hy, x1, N, D :: L, by omega, n2, n3.cons D, List.nodup_cons.2 ⟨fun hE => absurd (hLD D hE) (Nat.lt_irrefl _), n4⟩, fun E hE => ⟨?_, ?_, x3 E hE⟩⟩
  ·rcases List.mem_cons.1 hE with rfl | hE
   ·omega
   ·exact (n5 E hE).1
  ·rcases List.mem_cons.1 hE with rfl | hE
   ·exact hBD
   ·exact (n5 E hE).2.1
 rintro i x W cx ⟨o', ι', hi, hM, hl⟩ hx hcs hcr
 have hxl := hps x (List.mem_of_getElem? hx)
 have hy := run_yield (P := P) (args := cx) hl (by rw [hrec]; show cx.size = ps.size; omega)
 rw [hrec] at hy
 refine ⟨fn, _, assign, body, hy, roundIn_of_wpIn (F := FW none) hfn ?_⟩
 have hsize : ∀ {o' : Nat → O} {ι' : Nat → Value} {W : World}, Mem Hy X0 B St w0 o' ι' W → D + 2 ≤ W.heap.size := fun hM => by
  have := hM.x
  rw [hX0e] at this
  exact this.2.2.2
 have hmono : ∀ (v : Value) (z : A), Ra W1 (Sd B St s.o ι W1) s.o ι v z → Ra W (Sd B St o' ι' W) o' ι' v z := by
  have := hM.x
  rw [hX0e] at this
  exact this.2.1
 obtain ⟨g1, g2, g3, g4⟩ := zhb (w := W) (ι := ι') (D := Sd B St o' ι' W) (o := o') ps.toList cx.toList x a.tmps ⟨s.n, s.t, o'⟩ (by simpa using hcs) (fun t v e => hmono _ _ (mA1 _ _ (h.tm t v e))) (fun j v t hv ht => hcr j v t (by simpa using hv) ht _ _)
 have hfold : (ps.zip cx).foldl (fun tmps (p : Tmp × Value) => tmps.setIfInBounds p.1 p.2) a.tmps = (ps.toList.zip cx.toList).foldl (fun t (p : Tmp × Value) => t.setIfInBounds p.1 p.2) a.tmps := by
  rw [← Array.foldl_toList, Array.toList_zip]
 have hRa : Rel Hy (fun W Dd o' ι' => X0 W Dd o' ι' ∧ W.heap[D + 1]? = some (.loop (rec .ready none))) B St w0 (fun d => d = []) (zc8 s o' ps.toList x) ι' { tmps := (ps.zip cx).foldl (fun tmps (p : Tmp × Value) => tmps.setIfInBounds p.1 p.2) a.tmps, defers := [] } W := by
  have eo : (zc8 s o' ps.toList x).o = o' := g4
  refine ⟨hM.below, hM.hB, ?_, ?_, ?_, rfl, ?_, hM.stB, hM.hy, ?_, D + 2, [], hsize hM, hXr _, DefIs.nil, List.nodup_nil, fun E hE => (by cases hE)⟩
  ·rw [eo]; exact hM.ob
  ·rw [eo]; exact hM.inj
  ·rw [eo, hfold]; exact g1
  ·rw [hfold, g2, show (zc8 s o' ps.toList x).n = s.n from g3]; exact h.sz
  ·rw [eo]; exact ⟨hM.x, hl⟩
 refine wpIn_mono (hround (D + 1) _ _ i x o' ι' _ W hx hi hRa) ?_
 rintro e a1 w1 ⟨rfl, s1, ι1, hRs, hbody⟩
 have hl1 := hRs.x.2
 have hbr := run_beginRound (P := P) hl1 (by rw [hrec])
 have hbusy : ({ rec .ready none with state := .busy } : Loop) = rec .busy none := by rw [hrec, hrec]
 rw [hbusy] at hbr
 refine ⟨_, hbr, ?_⟩
 have hMs : Mem Hy X0 B St w0 s1.o ι1 w1 := hRs.mem.weak hRs.x.1 (N := D + 1) (by have := (Array.getElem?_eq_some_iff.1 hl1).1; omega) hX0
 obtain ⟨hM2, mA2⟩ := hMs.oput (ob' := .loop (rec .busy none)) hX0 (by have := hsize hMs; omega) (Nat.le_refl _) (by omega) hl1 (zb9 _)
 have hl2 : (w1.putObj (D + 1) (.loop (rec .busy none))).heap[D + 1]? = some (.loop (rec .busy none)) := World.putObj_heap_same (Array.getElem?_eq_some_iff.1 hl1).1
 have hR2 : Rel Hy (fun W Dd o' ι' => X0 W Dd o' ι' ∧ W.heap[D + 1]? = some (.loop (rec .busy none))) B St w0 (fun d => d = []) s1 ι1 a1 (w1.putObj (D + 1) (.loop (rec .busy none))) :=
  ⟨hM2.below, hM2.hB, hM2.ob, hM2.inj, fun t v e => mA2 _ _ (hRs.tm t v e), hRs.dv, hRs.sz, hM2.stB, hM2.hy, ⟨hM2.x, hl2⟩, D + 2, [], hsize hM2, hXr _, by rw [show a1.defers = [] from hRs.dv]; exact DefIs.nil, List.nodup_nil, fun E hE => (by cases hE)⟩
 refine wpIn_mono (hbody _ _ hR2) ?_
 rintro e a2 w3 ⟨rfl, s2, ι2, hR3, hi2⟩
 have hl3 := hR3.x.2
 have he := run_endRound (P := P) none hl3
 have hend3 : ({ rec .busy none with state := if (none : Option Code).isNone then .ready else .done, pending := none } : Loop) = rec .ready none := by rw [hrec, hrec]; rfl
 rw [hend3] at he
 have hM3 : Mem Hy X0 B St w0 s2.o ι2 w3 := hR3.mem.weak hR3.x.1 (N := D + 1) (by have := (Array.getElem?_eq_some_iff.1 hl3).1; omega) hX0
 obtain ⟨hM4, _⟩ := hM3.oput (ob' := .loop (rec .ready none)) hX0 (by have := hsize hM3; omega) (Nat.le_refl _) (by omega) hl3 (zb9 _)
 exact ⟨_, _, he, rfl, s2.o, ι2, hi2, hM4, World.putObj_heap_same (Array.getElem?_eq_some_iff.1 hl3).1⟩
def E0 : Env := ⟨0, fun _ _ _ => False, fun _ => False⟩
structure CmY (P : Program) (Hy : World → Prop) (f : FuncId) (l : Nat) (Y : YC) (args : List A) (o : Nat → O) (R : List A → (Nat → O) → Prop) : Prop where
 fn : ∃ fn, P.funcs[f]? = some fn ∧ fn.name ≠ "runtime.NumGoroutine" ∧ fn.body ≠ none
 go : ∀ X B St w0 ι w (cargs : Array Value) (n : Nat), Mem Hy X B St w0 o ι w → cargs.size = args.length → (∀ (j : Nat) v x, cargs[j]? = some v → args[j]? = some x → Ra w (Sd B St o ι w) o ι v x) → YOk P Hy X B St w0 n l Y →
  CallsIn (FW none) (n + 1) P f cargs w fun e w' => ∃ v ι' o' rs, e = .returned v ∧ R rs o' ∧ Mem Hy X B St w0 o' ι' w' ∧ RresM w' (Sd B St o' ι' w') o' ι' v rs
def zcM (s : S) (o : Nat → O) (ps : List Tmp) (x : List A) : S := (ps.zip x).foldl (fun s p => s.put (some p.1) p.2) ⟨s.n, s.t, o⟩
theorem zhc {D : Nat → Prop} {o : Nat → O} : ∀ (pl : List Tmp) (cl : List Value) (xl : List A) (tm : Array Value) (s : S), cl.length = xl.length → (∀ (t : Nat) v, tm[t]? = some v → Ra w D o ι v (s.t t)) → (∀ (j : Nat) v x, cl[j]? = some v → xl[j]? = some x → Ra w D o ι v x) →
  (∀ (t : Nat) v, ((pl.zip cl).foldl (fun t (p : Tmp × Value) => t.setIfInBounds p.1 p.2) tm)[t]? = some v → Ra w D o ι v (((pl.zip xl).foldl (fun s p => s.put (some p.1) p.2) s).t t)) ∧
  ((pl.zip cl).foldl (fun t (p : Tmp × Value) => t.setIfInBounds p.1 p.2) tm).size = tm.size ∧ ((pl.zip xl).foldl (fun s p => s.put (some p.1) p.2) s).n = s.n ∧ ((pl.zip xl).foldl (fun s p => s.put (some p.1) p.2) s).o = s.o
 | [], _, _, _, _, _, h, _ => ⟨by simpa using h, rfl, rfl, rfl⟩
 | _ :: _, [], [], _, _, _, h, _ => ⟨by simpa using h, rfl, rfl, rfl⟩
 | p :: pl, c :: cl, x :: xl, tm, s, hl, h, hr => by
  obtain ⟨g1, g2, g3, g4⟩ := zhc pl cl xl (tm.setIfInBounds p c) (s.put (some p) x) (by simpa using hl) (fun t v e => by
   rw [Array.getElem?_setIfInBounds] at e
   show Ra w D o ι v (if t = p then x else s.t t)
   by_cases ht : p = t
   ·rw [if_pos ht.symm]
    rw [if_pos ht] at e
    split at e
    ·cases e
     exact hr 0 c x rfl rfl
    ·cases e
   ·rw [if_neg (fun e => ht e.symm)]
    rw [if_neg ht] at e
    exact h t v e) (fun j v x hv hx => hr (j + 1) v x (by simpa using hv) (by simpa using hx))
  exact ⟨g1, by rw [List.zip_cons_cons, List.foldl_cons, g2]; simp, g3, g4⟩
theorem zkf (h : Rel Hy X B St w0 Dp s ι a w) (hDp : ∀ D d, Dp d → Dp (mark D :: d)) {g : Operand} {ps : Array Tmp} {assign body : Code} {gf : FuncId} {lb : List A} {Y : YC} {R : List A → (Nat → O) → Prop} {Q' : Exit → Act → World → Prop} {nn : Nat}
  (hg : s.ev g = .fn gf [] lb) (it : ∀ l, CmY P Hy gf l Y (.t (.yl l) :: lb) s.o R) (hps : ∀ args o1 Rb, Y args o1 Rb → args.length = ps.size)
  (hround : ∀ (l m : Nat) (X2 : World → (Nat → Prop) → (Nat → O) → (Nat → Value) → Prop) (args : List A) (o' : Nat → O) (Rb : (Nat → O) → Prop) (ι' : Nat → Value) (a' : Act) (w' : World), Y args o' Rb → Rel Hy X2 B St w0 (fun d => d = []) (zcM s o' ps.toList args) ι' a' w' →
   assign.wpIn (FW (some l)) m P (fun e a1 w1 => e = .normal ∧ ∃ s1 ι1, Rel Hy X2 B St w0 (fun d => d = []) s1 ι1 a1 w1 ∧ ∀ (X3 : World → (Nat → Prop) → (Nat → O) → (Nat → Value) → Prop) (w2 : World), Rel Hy X3 B St w0 (fun d => d = []) s1 ι1 a1 w2 →
    body.wpIn (FW (some l)) m P (fun e a2 w3 => e = .normal ∧ ∃ s2 ι2, Rel Hy X3 B St w0 (fun d => d = []) s2 ι2 a2 w3 ∧ Rb s2.o) a1 w2) a' w')
  (hend : ∀ (rs : List A) (o' : Nat → O) (ι' : Nat → Value) (a' : Act) (w' : World), R rs o' → Rel Hy X B St w0 Dp ⟨s.n, s.t, o'⟩ ι' a' w' → Q' .normal a' w') :
  (Code.rangeFunc g ps assign body).wpIn (FW none) nn P Q' a w := by
 obtain ⟨N, L, n1, n2, n3, n4, n5⟩ := h.xd
 have hx := h.ev g
 rw [hg] at hx
 obtain ⟨cs, cl, hv, ha1, ha2⟩ := hx.fn_get
 have hcs : cs = #[] := Array.eq_empty_of_size_eq_zero (by simpa using ha1.1)
 subst hcs
 obtain ⟨fn0, f1, f2, f3⟩ := (it 0).fn
 have eg : ∀ (args : Array Value) (w : World), (callFunc gf args).run P w = .ok (.enter gf args) w := fun args w => by simp [callFunc, f1, f2, f3]
 refine wpIn_rangeFunc fun fn hfn => ?_
 rw [show (FW none).round = none from rfl]
 obtain ⟨D, hD⟩ : ∃ D, w.heap.size = D := ⟨_, rfl⟩
 obtain ⟨rec, hrec⟩ : ∃ rec : LoopState → Option Code → Loop, ∀ st pe, rec st pe = { state := st, pending := pe, fn, tmps := a.tmps, params := ps, assign, body, defers := D } := ⟨fun st pe => { state := st, pending := pe, fn, tmps := a.tmps, params := ps, assign, body, defers := D }, fun _ _ => rfl⟩
 have hW1 := run_enterLoop_outer (P := P) (w := w) fn a.tmps ps assign body
 rw [hD, ← hrec] at hW1
 have hKd : (w.alloc (.deferred (some []))).heap[D]? = some (.deferred (some [])) := by rw [← hD]; exact World.alloc_heap_new w _
 have hsz : (w.alloc (.deferred (some []))).heap.size = D + 1 := by rw [World.size_alloc, hD]
 have hL1 : ((w.alloc (.deferred (some []))).alloc (.loop (rec .ready none))).heap[D + 1]? = some (.loop (rec .ready none)) := by
  rw [← hsz]; exact World.alloc_heap_new _ _
 have hK1 : ((w.alloc (.deferred (some []))).alloc (.loop (rec .ready none))).heap[D]? = some (.deferred (some [])) :=
  (Below.heap_alloc _ _ _ (by rw [hsz]; omega)).trans hKd
 have hb1 : Below w.heap.size w ((w.alloc (.deferred (some []))).alloc (.loop (rec .ready none))) :=
  ((Below.refl _ w).alloc (by omega) _).alloc (by omega) _
 have hsz1 : ((w.alloc (.deferred (some []))).alloc (.loop (rec .ready none))).heap.size = D + 2 := by rw [World.size_alloc, hsz]
 generalize hWe : (w.alloc (.deferred (some []))).alloc (.loop (rec .ready none)) = W1 at *
 have hR1 : Rel Hy X B St w0 Dp s ι a W1 := h.keep hb1 none .junk undef (fun e => absurd rfl e)
 have mA1 : ∀ (v : Value) (z : A), Ra w (Sd B St s.o ι w) s.o ι v z → Ra W1 (Sd B St s.o ι W1) s.o ι v z := fun v z hz => hz.mono (fun g hg => ⟨⟨hg.1, Nat.lt_of_lt_of_le hg.2.1 hb1.size, hg.2.2⟩, hb1.block g hg.2.1⟩) (fun id => ⟨Nat.le_refl _, fun _ => rfl⟩)
 have hLD : ∀ E ∈ L, E < D := fun E hE => by
  have := (Array.getElem?_eq_some_iff.1 (n5 E hE).2.2).1
  omega
 obtain ⟨X0, hX0e⟩ : ∃ X0 : World → (Nat → Prop) → (Nat → O) → (Nat → Value) → Prop, X0 = fun W Dd o' ι' => X W Dd o' ι' ∧ (∀ (v : Value) (z : A), Ra W1 (Sd B St s.o ι W1) s.o ι v z → Ra W Dd o' ι' v z) ∧ (∀ E ∈ D :: L, W.heap[E]? = some (.deferred (some []))) ∧ D + 2 ≤ W.heap.size := ⟨_, rfl⟩
 have hX0 : XC X0 (D + 1) := fun w1 D1 o1 ι1 w2 D2 o2 ι2 mT mA hz hk hx => by
  rw [hX0e] at hx ⊢
  obtain ⟨x1, x2, x3, x4⟩ := hx
  refine ⟨n2 _ _ _ _ _ _ _ _ mT mA hz (fun b ob hb => hk b ob (by omega)) x1, fun v z hr => mA _ _ (x2 v z hr), fun E hE => hk E _ ?_ (zdr _) (x3 E hE), by omega⟩
  rcases List.mem_cons.1 hE with rfl | hE
  ·omega
  ·have := hLD E hE; omega
 have hXr : ∀ r : Loop, XC (fun W Dd o' ι' => X0 W Dd o' ι' ∧ W.heap[D + 1]? = some (.loop r)) (D + 2) := fun r w1 D1 o1 ι1 w2 D2 o2 ι2 mT mA hz hk hx =>
  ⟨hX0 _ _ _ _ _ _ _ _ mT mA hz (fun b ob hb => hk b ob (by omega)) hx.1, hk (D + 1) _ (by omega) (zb9 r) hx.2⟩
 have hBD : B ≤ D := by rw [← hD]; exact h.hB
 have hM1 : Mem Hy X0 B St w0 s.o ι W1 := hR1.mem.weak (by
  rw [hX0e]
  refine ⟨hR1.x, fun v z hz => hz, fun E hE => ?_, by omega⟩
  rcases List.mem_cons.1 hE with rfl | hE
  ·exact hK1
  ·exact (hb1.block E (by rw [hD]; exact hLD E hE)).trans (n5 E hE).2.2) (N := D + 1) (by omega) hX0
 refine ⟨D + 1, [mark D], W1, { target := .fn (.func gf) cl, args := #[.func (.yield (D + 1)) #[] #[]] }, W1, gf, #[.func (.yield (D + 1)) #[] #[]] ++ cl, W1, hW1, ?_, fun f' _ => zc7 f', ?_, fun e => (by rw [zdH] at e; cases e), ?_⟩
 ·simp only [resolve, hv]; simp [go_sem]
 ·simp [invoke, go_sem, eg]
 have hM1' : Mem Hy (fun W Dd o' ι' => X0 W Dd o' ι' ∧ W.heap[D + 1]? = some (.loop (rec .ready none))) B St w0 s.o ι W1 := hM1.weak ⟨hM1.x, hL1⟩ (N := D + 2) (by omega) (hXr _)
 have hcall := (it (D + 1)).go _ B St w0 ι W1 (#[.func (.yield (D + 1)) #[] #[]] ++ cl) (nn - 1) hM1' (by
   rw [Array.size_append]
   simp only [List.size_toArray, List.length_cons, List.length_nil, ha2.1]
   omega) (fun j v x hv hx => by
   cases j with
   | zero =>
    cases hx
    rw [Array.getElem?_append_left (by simp)] at hv
    cases hv
    exact .t (.yl _)
   | succ j =>
    rw [Array.getElem?_append_right (by simp)] at hv
    rw [List.getElem?_cons_succ] at hx
    obtain ⟨c, hc, hr⟩ := ha2.2 j x hx
    have : cl[j]? = some v := by simpa using hv
    rw [this] at hc
    cases hc
    exact mA1 _ _ hr) ?_
 ·refine (zdI.2 (zdI.1 hcall)).mono ?_
  rintro e W2 ⟨v, ι', o', rs, rfl, hi, hM', _⟩
  have hl := hM'.x.2
  have hM : Mem Hy X0 B St w0 o' ι' W2 := hM'.weak hM'.x.1 (N := D + 1) (by have := (Array.getElem?_eq_some_iff.1 hl).1; omega) hX0
  have he := run_endLoop (P := P) hl (by rw [hrec]; simp)
  rw [show (rec .ready none).pending = none from by rw [hrec]] at he
  obtain ⟨r', he⟩ : ∃ r', (Instr.endLoop (D + 1)).run P W2 = .ok none (W2.putObj (D + 1) (.loop r')) := ⟨_, he⟩
  refine ⟨none, _, he, hend rs o' ι' _ _ hi ?_⟩
  obtain ⟨hM4, _⟩ := hM.oput (ob' := .loop r') hX0 (by have := hM.x; rw [hX0e] at this; have := this.2.2.2; omega) (Nat.le_refl _) (by omega) hl (zb9 _)
  have hx4 := hM4.x
  rw [hX0e] at hx4
  obtain ⟨x1, x2, x3, x4⟩ := hx4
  refine ⟨hM4.below, hM4.hB, hM4.ob, hM4.inj, fun t v e => x2 _ _ (mA1 _ _ (h.tm t v e)), hDp _ _ h.dv, h.sz, hM4.stB, hM4.hy, x1, N, D :: L, by omega, n2, n3.cons D, List.nodup_cons.2 ⟨fun hE => absurd (hLD D hE) (Nat.lt_irrefl _), n4⟩, fun E hE => ⟨?_, ?_, x3 E hE⟩⟩
  ·rcases List.mem_cons.1 hE with rfl | hE
   ·omega
   ·exact (n5 E hE).1
  ·rcases List.mem_cons.1 hE with rfl | hE
   ·exact hBD
   ·exact (n5 E hE).2.1
 intro args o1 Rb hy T ι' W cx hT0 hMY hcs hcr
 obtain ⟨XZ, hXZe⟩ : ∃ XZ : World → (Nat → Prop) → (Nat → O) → (Nat → Value) → Prop, XZ = fun W Dd o' ι' => X0 W Dd o' ι' ∧ T W Dd o' ι' := ⟨_, rfl⟩
 have hXZ : XC XZ (D + 1) := fun w1 D1 o1 ι1 w2 D2 o2 ι2 mT mA hz hk hx => by
  rw [hXZe] at hx ⊢
  exact ⟨hX0 _ _ _ _ _ _ _ _ mT mA hz hk hx.1, hT0 _ _ _ _ _ _ _ _ mT mA hz (fun b ob hb => absurd hb (Nat.not_lt_zero b)) hx.2⟩
 have hXq : ∀ r : Loop, XC (fun W Dd o' ι' => XZ W Dd o' ι' ∧ W.heap[D + 1]? = some (.loop r)) (D + 2) := fun r w1 D1 o1 ι1 w2 D2 o2 ι2 mT mA hz hk hx =>
  ⟨hXZ _ _ _ _ _ _ _ _ mT mA hz (fun b ob hb => hk b ob (by omega)) hx.1, hk (D + 1) _ (by omega) (zb9 r) hx.2⟩
 have hl : W.heap[D + 1]? = some (.loop (rec .ready none)) := hMY.x.1.2
 have hM : Mem Hy XZ B St w0 o1 ι' W := hMY.weak (by rw [hXZe]; exact ⟨hMY.x.1.1, hMY.x.2⟩) (N := D + 1) (by have := (Array.getElem?_eq_some_iff.1 hl).1; omega) hXZ
 have hxl := hps _ _ _ hy
 have hyr := run_yield (P := P) (args := cx) hl (by rw [hrec]; show cx.size = ps.size; omega)
 rw [hrec] at hyr
 refine ⟨fn, _, assign, body, hyr, roundIn_of_wpIn (F := FW none) hfn ?_⟩
 have hsize : ∀ {o' : Nat → O} {ι' : Nat → Value} {W : World}, Mem Hy XZ B St w0 o' ι' W → D + 2 ≤ W.heap.size := fun hM => by
  have := hM.x
  rw [hXZe, hX0e] at this
  exact this.1.2.2.2
 have hmono : ∀ (v : Value) (z : A), Ra W1 (Sd B St s.o ι W1) s.o ι v z → Ra W (Sd B St o1 ι' W) o1 ι' v z := by
  have := hM.x
  rw [hXZe, hX0e] at this
  exact this.1.2.1
 obtain ⟨g1, g2, g3, g4⟩ := zhc (w := W) (ι := ι') (D := Sd B St o1 ι' W) (o := o1) ps.toList cx.toList args a.tmps ⟨s.n, s.t, o1⟩ (by simpa using hcs) (fun t v e => hmono _ _ (mA1 _ _ (h.tm t v e))) (fun j v t hv ht => hcr j v t (by simpa using hv) ht)
 have hfold : (ps.zip cx).foldl (fun tmps (p : Tmp × Value) => tmps.setIfInBounds p.1 p.2) a.tmps = (ps.toList.zip cx.toList).foldl (fun t (p : Tmp × Value) => t.setIfInBounds p.1 p.2) a.tmps := by
  rw [← Array.foldl_toList, Array.toList_zip]
 have hRa : Rel Hy (fun W Dd o' ι' => XZ W Dd o' ι' ∧ W.heap[D + 1]? = some (.loop (rec .ready none))) B St w0 (fun d => d = []) (zcM s o1 ps.toList args) ι' { tmps := (ps.zip cx).foldl (fun tmps (p : Tmp × Value) => tmps.setIfInBounds p.1 p.2) a.tmps, defers := [] } W := by
  have eo : (zcM s o1 ps.toList args).o = o1 := g4
  refine ⟨hM.below, hM.hB, ?_, ?_, ?_, rfl, ?_, hM.stB, hM.hy, ?_, D + 2, [], hsize hM, hXq _, DefIs.nil, List.nodup_nil, fun E hE => (by cases hE)⟩
  ·rw [eo]; exact hM.ob
  ·rw [eo]; exact hM.inj
  ·rw [eo, hfold]; exact g1
  ·rw [hfold, g2, show (zcM s o1 ps.toList args).n = s.n from g3]; exact h.sz
  ·rw [eo]; exact ⟨hM.x, hl⟩
 refine wpIn_mono (hround (D + 1) _ _ args o1 Rb ι' _ W hy hRa) ?_
 rintro e a1 w1 ⟨rfl, s1, ι1, hRs, hbody⟩
 have hl1 := hRs.x.2
 have hbr := run_beginRound (P := P) hl1 (by rw [hrec])
 have hbusy : ({ rec .ready none with state := .busy } : Loop) = rec .busy none := by rw [hrec, hrec]
 rw [hbusy] at hbr
 refine ⟨_, hbr, ?_⟩
 have hMs : Mem Hy XZ B St w0 s1.o ι1 w1 := hRs.mem.weak hRs.x.1 (N := D + 1) (by have := (Array.getElem?_eq_some_iff.1 hl1).1; omega) hXZ
 obtain ⟨hM2, mA2⟩ := hMs.oput (ob' := .loop (rec .busy none)) hXZ (by have := hsize hMs; omega) (Nat.le_refl _) (by omega) hl1 (zb9 _)
 have hl2 : (w1.putObj (D + 1) (.loop (rec .busy none))).heap[D + 1]? = some (.loop (rec .busy none)) := World.putObj_heap_same (Array.getElem?_eq_some_iff.1 hl1).1
 have hR2 : Rel Hy (fun W Dd o' ι' => XZ W Dd o' ι' ∧ W.heap[D + 1]? = some (.loop (rec .busy none))) B St w0 (fun d => d = []) s1 ι1 a1 (w1.putObj (D + 1) (.loop (rec .busy none))) :=
  ⟨hM2.below, hM2.hB, hM2.ob, hM2.inj, fun t v e => mA2 _ _ (hRs.tm t v e), hRs.dv, hRs.sz, hM2.stB, hM2.hy, ⟨hM2.x, hl2⟩, D + 2, [], hsize hM2, hXq _, by rw [show a1.defers = [] from hRs.dv]; exact DefIs.nil, List.nodup_nil, fun E hE => (by cases hE)⟩
 refine wpIn_mono (hbody _ _ hR2) ?_
 rintro e a2 w3 ⟨rfl, s2, ι2, hR3, hi2⟩
 have hl3 := hR3.x.2
 have he := run_endRound (P := P) none hl3
 have hend3 : ({ rec .busy none with state := if (none : Option Code).isNone then .ready else .done, pending := none } : Loop) = rec .ready none := by rw [hrec, hrec]; rfl
 rw [hend3] at he
 have hM3 : Mem Hy XZ B St w0 s2.o ι2 w3 := hR3.mem.weak hR3.x.1 (N := D + 1) (by have := (Array.getElem?_eq_some_iff.1 hl3).1; omega) hXZ
 obtain ⟨hM4, _⟩ := hM3.oput (ob' := .loop (rec .ready none)) hXZ (by have := hsize hM3; omega) (Nat.le_refl _) (by omega) hl3 (zb9 _)
 have hl4 : (w3.putObj (D + 1) (.loop (rec .ready none))).heap[D + 1]? = some (.loop (rec .ready none)) := World.putObj_heap_same (Array.getElem?_eq_some_iff.1 hl3).1
 have hx4 := hM4.x
 rw [hXZe] at hx4
 exact ⟨_, _, he, rfl, s2.o, ι2, hi2, hM4.weak ⟨⟨hx4.1, hl4⟩, hx4.2⟩ (N := D + 2) (hsize hM4) (fun w1 D1 o1 ι1 w2 D2 o2 ι2 mT mA hz hk hx => by
  have := hXq _ _ _ _ _ _ _ _ _ mT mA hz hk ⟨by rw [hXZe]; exact ⟨hx.1.1, hx.2⟩, hx.1.2⟩
  rw [hXZe] at this
  exact ⟨⟨this.1.1, this.2⟩, this.1.2⟩)⟩
def cwp (P : Program) (Hy : World → Prop) (tt : Tys) (cls : Nat → Nat) (E : Env) : Bool → Code → (Exit → S → Prop) → S → Prop
 | _, .skip, Q, s => Q .normal s
 | _, .region _ ops false, Q, s => zU P Hy tt cls ⟨E.l, E.y, Q (.panic [])⟩ ops.toList ops.toList s (Q .normal)
 | _, .region _ ops true, Q, s => zdV ops.toList = true ∧ zY P Hy tt cls ⟨E.l, E.y, Q (.panic [])⟩ ops.toList ops.toList 0 s [] (Q .normal)
 | top, .seq x y, Q, s => cwp P Hy tt cls E top x (fun e s' => match e with
  | .normal => ∃ s1, StlS s' s1 ∧ cwp P Hy tt cls E top y Q s1
  | e => Q e s') s
 | top, .cond c x y, Q, s => match s.ev c with
  | .t (.b q) => (q = true → cwp P Hy tt cls E top x Q s) ∧ (q = false → cwp P Hy tt cls E top y Q s)
  | _ => False
 | top, .block id x, Q, s => cwp P Hy tt cls E top x (fun e s' => match e with
  | .exit id' => if id' = id then Q .normal s' else Q (.exit id') s'
  | e => Q e s') s
 | top, .loop x, Q, s => ∃ (I : Nat → S → Prop) (n : Nat), I n s ∧ ∀ m s, I m s → cwp P Hy tt cls E top x (fun e s' => match e with
  | .normal => ∃ m', m' < m ∧ I m' s'
  | e => Q e s') s
 | _, .exit id, Q, s => Q (.exit id) s
 | _, .ret, Q, s => Q .ret s
 | top, .rangeFunc g ps assign body, Q, s => top = true ∧ ((∃ (gf : FuncId) (lb : List A) (ids : List Nat) (ls : List (List T)) (Inv : Nat → (Nat → O) → Prop), s.ev g = .fn gf [] lb ∧ ItC P Hy gf lb s.o ids ls ∧ (∀ x ∈ ls, x.length = ps.size) ∧ Inv 0 s.o ∧ (∀ i o', Inv i o' → ∀ id ∈ ids, o' id = s.o id) ∧
  (∀ i x o', ls[i]? = some x → Inv i o' → cwp P Hy tt cls E0 false assign (fun e s1 => match e with
   | .normal => cwp P Hy tt cls E0 false body (fun e s2 => match e with
    | .normal => ∃ o3, Stl s2.o o3 ∧ Inv (i + 1) o3
    | _ => False) s1
   | _ => False) (zc8 s o' ps.toList x)) ∧
  ∀ o', Inv ls.length o' → Q .normal ⟨s.n, s.t, o'⟩) ∨
  ∃ (gf : FuncId) (lb : List A) (Y : YC) (R : List A → (Nat → O) → Prop), s.ev g = .fn gf [] lb ∧ (∀ l, CmY P Hy gf l Y (.t (.yl l) :: lb) s.o R) ∧
  (∀ args o1 Rb, Y args o1 Rb → args.length = ps.size ∧ cwp P Hy tt cls E0 false assign (fun e s1 => match e with
   | .normal => cwp P Hy tt cls E0 false body (fun e s2 => match e with
    | .normal => ∃ o3, Stl s2.o o3 ∧ Rb o3
    | _ => False) s1
   | _ => False) (zcM s o1 ps.toList args)) ∧
  ∀ rs o', R rs o' → Q .normal ⟨s.n, s.t, o'⟩)
 | _, _, _, _ => False
def zkg (Hy : World → Prop) (X : World → (Nat → Prop) → (Nat → O) → (Nat → Value) → Prop) (B : Nat) (St : Nat → Prop) (w0 : World) (Dp : List Deferred → Prop) (Q : Exit → S → Prop) (Q' : Exit → Act → World → Prop) : Prop := ∀ e s ι a w, Rel Hy X B St w0 Dp s ι a w → Q e s → match e with
 | .panic _ => ∀ v, Ra w (Sd B St s.o ι w) s.o ι v (s.t s.n) → Q' (.panic [{ v, recovered := false }]) a w
 | e => Q' e a w
theorem zkh (p : Nat → Prop) (h : ∃ x, p x) : ∃ m, p m ∧ ∀ x, p x → m ≤ x := by
 obtain ⟨x, hx⟩ := h
 induction x using Nat.strongRecOn with
 | _ x ih =>
  by_cases hl : ∃ y, y < x ∧ p y
  ·obtain ⟨y, hy, hp⟩ := hl
   exact ih y hy hp
  ·exact ⟨x, hx, fun y hy => Nat.le_of_not_lt (fun hlt => hl ⟨y, hlt, hy⟩)⟩
theorem zki (R : Act → World → Nat → Prop) : ∃ mu : Act → World → Nat, ∀ a w, (∃ x, R a w x) → R a w (mu a w) ∧ ∀ x, R a w x → mu a w ≤ x := by
 have key : ∀ p : Act × World, ∃ m, (∃ x, R p.1 p.2 x) → R p.1 p.2 m ∧ ∀ x, R p.1 p.2 x → m ≤ x := fun p => by
  by_cases h : ∃ x, R p.1 p.2 x
  ·obtain ⟨m, hm⟩ := zkh _ h
   exact ⟨m, fun _ => hm⟩
  ·exact ⟨0, fun h2 => absurd h2 h⟩
 exact ⟨fun a w => Classical.choose (key (a, w)), fun a w => Classical.choose_spec (key (a, w))⟩
theorem zbb (hT : Tys.ok P tt) (hM : P.follows .mixedOrders = true) : ∀ (c : Code) {E : Env} {X : World → (Nat → Prop) → (Nat → O) → (Nat → Value) → Prop} {Dp : List Deferred → Prop} {top : Bool} {ro : Option Nat} {nn : Nat} (_ : top = true → ro = none ∧ ∀ D d, Dp d → Dp (mark D :: d)) (_ : YH P Hy X B St w0 Dp ro nn E) {Q : Exit → S → Prop} {Q' : Exit → Act → World → Prop} {s : S} {ι : Nat → Value} {a : Act} {w : World}, Rel Hy X B St w0 Dp s ι a w → zkg Hy X B St w0 Dp Q Q' → cwp P Hy tt cls E top c Q s → c.wpIn (FW ro) nn P Q' a w
 | .skip, E, X, Dp, top, ro, nn, ht, hY, Q, Q', s, ι, a, w, h, hs, hk => wpIn_skip (hs .normal _ _ _ _ h hk)
 | .region id ops false, E, X, Dp, top, ro, nn, ht, hY, Q, Q', s, ι, a, w, h, hs, hk => wpIn_region (by
   have := zha (ro := ro) (nn := nn) (Q := Q') (E := ⟨E.l, E.y, Q (.panic [])⟩) hT hY (fun s ι a w h hk => hs (.panic []) s ι a w h hk) ops ops.size 0 (by omega) h (fun s ι a w h hk => hs .normal s ι a w h hk) (by simpa [cwp] using hk)
   simpa using this)
 | .region id ops true, E, X, Dp, top, ro, nn, ht, hY, Q, Q', s, ι, a, w, h, hs, hk => zlQ (E := ⟨E.l, E.y, Q (.panic [])⟩) hT hM hY (fun s ι a w h hk => hs (.panic []) s ι a w h hk) id h (fun s ι a w h hk => hs .normal s ι a w h hk) hk.1 hk.2
 | .seq x y, E, X, Dp, top, ro, nn, ht, hY, Q, Q', s, ι, a, w, h, hs, hk => wpIn_seq (zbb hT hM x ht hY h (fun e s ι a w h hk => by
   cases e <;> first
    | exact hs _ _ _ _ _ h hk
    | skip
   obtain ⟨s1, h1, hk⟩ := hk
   exact zbb hT hM y ht hY (h1 _ _ _ _ _ _ _ _ _ h) hs hk) hk)
 | .cond c x y, E, X, Dp, top, ro, nn, ht, hY, Q, Q', s, ι, a, w, h, hs, hk => by
   simp only [cwp] at hk
   split at hk
   ·rename_i q e
    have hc := h.ev c
    rw [e] at hc
    cases q
    ·exact wpIn_cond_false hc.bool (zbb hT hM y ht hY h hs (hk.2 rfl))
    ·exact wpIn_cond_true hc.bool (zbb hT hM x ht hY h hs (hk.1 rfl))
   ·exact hk.elim
 | .block id x, E, X, Dp, top, ro, nn, ht, hY, Q, Q', s, ι, a, w, h, hs, hk => wpIn_block (zbb hT hM x ht hY h (fun e s ι a w h hk => by
   cases e <;> first
    | exact hs _ _ _ _ _ h hk
    | skip
   rename_i id'
   simp only [Exit.inBlock]
   split
   ·rename_i e
    simp only [e, if_true] at hk
    exact hs _ _ _ _ _ h hk
   ·rename_i e
    simp only [e, if_false] at hk
    exact hs _ _ _ _ _ h hk) hk)
 | .loop x, E, X, Dp, top, ro, nn, ht, hY, Q, Q', s, ι, a, w, h, hs, hk => by
   obtain ⟨I, n, h0, hr⟩ := hk
   obtain ⟨mu, hmu⟩ := zki (fun a w m => ∃ s ι, Rel Hy X B St w0 Dp s ι a w ∧ I m s)
   refine wpIn_loop (fun a w => ∃ m s ι, Rel Hy X B St w0 Dp s ι a w ∧ I m s) mu ⟨n, s, ι, h, h0⟩ (fun a w hJ => ?_)
   obtain ⟨⟨s, ι, h, hI⟩, _⟩ := hmu a w hJ
   refine zbb hT hM x ht hY h (fun e s' ι' a' w' h' hk' => ?_) (hr _ s hI)
   cases e with
   | normal =>
    obtain ⟨m', hlt, hI'⟩ := hk'
    have hJ' : ∃ m s ι, Rel Hy X B St w0 Dp s ι a' w' ∧ I m s := ⟨m', s', ι', h', hI'⟩
    exact ⟨hJ', Nat.lt_of_le_of_lt ((hmu a' w' hJ').2 m' ⟨s', ι', h', hI'⟩) hlt⟩
   | exit id => exact hs _ _ _ _ _ h' hk'
   | goto l => exact hs _ _ _ _ _ h' hk'
   | ret => exact hs _ _ _ _ _ h' hk'
   | panic c => exact hs _ _ _ _ _ h' hk'
   | outgrown => exact hs _ _ _ _ _ h' hk'
 | .exit id, E, X, Dp, top, ro, nn, ht, hY, Q, Q', s, ι, a, w, h, hs, hk => wpIn_exit (hs (.exit id) _ _ _ _ h hk)
 | .ret, E, X, Dp, top, ro, nn, ht, hY, Q, Q', s, ι, a, w, h, hs, hk => wpIn_ret (hs .ret _ _ _ _ h hk)
 | .scope x, E, X, Dp, top, ro, nn, ht, hY, Q, Q', s, ι, a, w, h, hs, hk => hk.elim
 | .rangeFunc g ps x y, E, X, Dp, top, ro, nn, ht, hY, Q, Q', s, ι, a, w, h, hs, hk => by
   obtain ⟨htop, ⟨gf, lb, ids, ls, Inv, k1, k2, k3, k4, k5, k6, k7⟩ | ⟨gf, lb, Y, R, k1, k2, k6, k7⟩⟩ := hk
   ·obtain ⟨rfl, hDp⟩ := ht htop
    refine zke h hDp k1 k2 k3 k4 k5 (fun l m X2 i xs o' ι' a' w' hx hi hR => ?_) (fun o' ι' a' w' hi hR => hs .normal _ _ _ _ hR (k7 o' hi))
    refine zbb hT hM x (top := false) (fun e => by cases e) (.inl fun _ _ _ e => e) hR (fun e s1 ι1 a1 w1 hR1 hk1 => ?_) (k6 i xs o' hx hi)
    cases e with
    | normal =>
     refine ⟨rfl, s1, ι1, hR1, fun X3 w2 hR2 => ?_⟩
     refine zbb hT hM y (top := false) (fun e => by cases e) (.inl fun _ _ _ e => e) hR2 (fun e s2 ι2 a2 w3 hR3 hk2 => ?_) hk1
     cases e with
     | normal =>
      obtain ⟨o3, h1, h2⟩ := hk2
      exact ⟨rfl, _, ι2, hR3.stl h1, h2⟩
     | _ => exact hk2.elim
    | _ => exact hk1.elim
   ·obtain ⟨rfl, hDp⟩ := ht htop
    refine zkf h hDp k1 k2 (fun args o1 Rb hy => (k6 args o1 Rb hy).1) (fun l m X2 args o1 Rb ι' a' w' hy hR => ?_) (fun rs o' ι' a' w' hi hR => hs .normal _ _ _ _ hR (k7 rs o' hi))
    refine zbb hT hM x (top := false) (fun e => by cases e) (.inl fun _ _ _ e => e) hR (fun e s1 ι1 a1 w1 hR1 hk1 => ?_) (k6 args o1 Rb hy).2
    cases e with
    | normal =>
     refine ⟨rfl, s1, ι1, hR1, fun X3 w2 hR2 => ?_⟩
     refine zbb hT hM y (top := false) (fun e => by cases e) (.inl fun _ _ _ e => e) hR2 (fun e s2 ι2 a2 w3 hR3 hk2 => ?_) hk1
     cases e with
     | normal =>
      obtain ⟨o3, h1, h2⟩ := hk2
      exact ⟨rfl, _, ι2, hR3.stl h1, h2⟩
     | _ => exact hk2.elim
    | _ => exact hk1.elim
 | .goto l, E, X, Dp, top, ro, nn, ht, hY, Q, Q', s, ι, a, w, h, hs, hk => hk.elim
 | .label l, E, X, Dp, top, ro, nn, ht, hY, Q, Q', s, ι, a, w, h, hs, hk => hk.elim
 | .refuse y, E, X, Dp, top, ro, nn, ht, hY, Q, Q', s, ι, a, w, h, hs, hk => hk.elim
end
section
variable {P : Program} {tt : Tys} {Hy : World → Prop} {X : World → (Nat → Prop) → (Nat → O) → (Nat → Value) → Prop} {cls : Nat → Nat} {B : Nat} {St : Nat → Prop} {Dp : List Deferred → Prop} {w0 w : World} {s : S} {ι : Nat → Value} {a : Act}
def s0 (n : Nat) (args : List A) (o : Nat → O) : S := ⟨n, fun j => match args[j]? with
 | some x => x
 | none => .junk, o⟩
def o0 : Nat → O := fun _ => ⟨0, .none⟩
def zaB (tt : Tys) (s : S) : List ResultVar → (List A → Prop) → Prop
 | [], K => K []
 | .tmp t :: l, K => zaB tt s l fun as => K (s.ev (.tmp t) :: as)
 | .cell a t :: l, K => Pk tt (.load t (.tmp a)) s fun x => zaB tt s l fun as => K (x :: as)
theorem Rel.take (h : Rel Hy X B St w0 Dp s ι a w) {N D : Nat} {L : List Nat} {ds : List Deferred} {Dp' : List Deferred → Prop} (hDp : Dp' ds) (hds : DefIs ds L) (n1 : N ≤ w.heap.size) (n2 : XC X N) (n4 : (D :: L).Nodup) (n5 : ∀ E ∈ D :: L, N ≤ E ∧ B ≤ E ∧ w.heap[E]? = some (.deferred (some []))) :
  Rel Hy X B St w0 Dp' s ι { a with defers := ds } (w.putObj D (.deferred none)) ∧ N ≤ (w.putObj D (.deferred none)).heap.size ∧ L.Nodup ∧ ∀ E ∈ L, N ≤ E ∧ B ≤ E ∧ (w.putObj D (.deferred none)).heap[E]? = some (.deferred (some [])) := by
 obtain ⟨d1, d2, hD⟩ := n5 D List.mem_cons_self
 have ne : ∀ id, mb s.o ι id ≠ some D := h.oth (zdr _) hD
 have hk : ∀ b, b ≠ D → (w.putObj D (.deferred none)).heap[b]? = w.heap[b]? := fun b hb => World.putObj_heap_other hb
 have hz : (w.putObj D (.deferred none)).heap.size = w.heap.size := World.putObj_size
 have hc : ∀ p c, w.cell? p = some c → (w.putObj D (.deferred none)).cell? p = some c := fun p c hp => by
  by_cases hb : p.block = D
  ·exfalso
   unfold World.cell? at hp
   rw [hb, hD] at hp
   cases hp
  ·rw [World.cell?_of_block (hk _ hb)]
   exact hp
 obtain ⟨f1, f2⟩ := List.nodup_cons.1 n4
 have keepL : ∀ E ∈ L, N ≤ E ∧ B ≤ E ∧ (w.putObj D (.deferred none)).heap[E]? = some (.deferred (some [])) := fun E hE => by
  obtain ⟨e1, e2, e3⟩ := n5 E (List.mem_cons_of_mem _ hE)
  exact ⟨e1, e2, (hk E (fun e => f1 (e ▸ hE))).trans e3⟩
 have hd : ∀ g, Sd B St s.o ι w g → Sd B St s.o ι (w.putObj D (.deferred none)) g := fun g hg => ⟨hg.1, by rw [hz]; exact hg.2.1, hg.2.2⟩
 generalize hw : w.putObj D (.deferred none) = w' at *
 have mT : ∀ (v : Value) (t : T), Rt w (Sd B St s.o ι w) v t → Rt w' (Sd B St s.o ι w') v t := fun v t ht => ht.mono2 hd hc
 have mA : ∀ (v : Value) (z : A), Ra w (Sd B St s.o ι w) s.o ι v z → Ra w' (Sd B St s.o ι w') s.o ι v z := fun v z hz => hz.mono2 hd hc
 have hbl : Below B w w' := ⟨by rw [← hw]; rfl, by rw [← hw]; rfl, by rw [← hw]; rfl, Nat.le_of_eq hz.symm, fun b hb => hk b (by omega)⟩
 refine ⟨⟨h.below.trans hbl, Nat.le_trans h.hB (Nat.le_of_eq hz.symm), fun id => ?_, h.inj, fun t v e => mA _ _ (h.tm t v e), hDp, h.sz, h.stB, h.hy, n2 _ _ _ _ _ _ _ _ mT mA (Nat.le_of_eq hz.symm) (fun b ob hb ho e => (hk b (by omega)).trans e) h.x, N, L, by omega, n2, hds, f2, keepL⟩, by omega, f2, keepL⟩
 have hob := h.ob id
 have same : ∀ b, mb s.o ι id = some b → w'.heap[b]? = w.heap[b]? := fun b e => hk b (fun e2 => ne id (by rw [e, e2]))
 cases hkk : (s.o id).k with
 | none => exact trivial
 | ro l => rw [hkk] at hob; exact mT _ _ hob
 | cells ty l =>
  rw [hkk] at hob
  obtain ⟨blk, cs, h1, h2, h3, h4, h5⟩ := hob
  refine ⟨blk, cs, h1, h2, ?_, h4, fun j y hy => ?_⟩
  ·rw [same blk (by unfold mb; rw [hkk, h1]; rfl)]
   exact h3
  ·obtain ⟨c, hc, hl, hr⟩ := h5 j y hy
   exact ⟨c, hc, hl, mA _ _ hr⟩
 | row ty z l =>
  rw [hkk] at hob
  obtain ⟨h1, xs, h2, h3⟩ := hob
  refine ⟨h1, xs, ⟨h2.1, ?_⟩, fun j y hy => ?_⟩
  ·rcases h2.2 with h4 | ⟨g, cap, cur, hv, hb2, hg2, rest⟩
   ·exact .inl h4
   ·refine .inr ⟨g, cap, cur, hv, hb2, ?_, rest⟩
    rw [same g (by unfold mb; rw [hkk, hv]; rfl)]
    exact hg2
  ·obtain ⟨c, hc, hl, hr⟩ := h3 j y hy
   exact ⟨c, hc, hl, mT _ _ hr⟩
 | rowA ty z l =>
  rw [hkk] at hob
  obtain ⟨h1, xs, h2, h3⟩ := hob
  refine ⟨h1, xs, ⟨h2.1, ?_⟩, fun j y hy => ?_⟩
  ·rcases h2.2 with h4 | ⟨g, cap, cur, hv, hb2, hg2, rest⟩
   ·exact .inl h4
   ·refine .inr ⟨g, cap, cur, hv, hb2, ?_, rest⟩
    rw [same g (by unfold mb; rw [hkk, hv]; rfl)]
    exact hg2
  ·obtain ⟨c, hc, hl, hr⟩ := h3 j y hy
   exact ⟨c, hc, hl, mA _ _ hr⟩
 | map ks l =>
  rw [hkk] at hob
  obtain ⟨blk, es, ck, h1, h2, h3, h4, h5, h6, h7⟩ := hob
  refine ⟨blk, es, ck, h1, h2, ?_, h4, h5, h6, fun j y hy => ?_⟩
  ·rw [same blk (by unfold mb; rw [hkk, h1]; rfl)]
   exact h3
  ·obtain ⟨c, hc, hk2, hl, hr⟩ := h7 j y hy
   exact ⟨c, hc, hk2, hl, mA _ _ hr⟩
theorem zkj {D : Nat} (h : w.heap[D]? = some (.deferred (some []))) : (Instr.takeDeferred D).run P w = .ok [] (w.putObj D (.deferred none)) := by
 simp [Instr.takeDeferred, Sem.run_bind, getObj, setObj, Sem.run, h, Result.andThen, World.putObj]
theorem zeg {nn : Nat} {fn : Func} {R : Ending → World → Prop} {u : FrameMode} (hu : u ≠ .run) {bs : List Deferred} (hbs : ∀ d ∈ bs, ∀ D, d.target ≠ .collected D) {N : Nat} (n2 : XC X N) : ∀ (L : List Nat) (w : World) (a : Act), Rel Hy X B St w0 (fun _ => True) s ι a w → a.defers = L.map mark ++ bs → N ≤ w.heap.size → L.Nodup → (∀ E ∈ L, N ≤ E ∧ B ≤ E ∧ w.heap[E]? = some (.deferred (some []))) →
  (∀ (w' : World) (a' : Act), a'.tmps = a.tmps → a'.defers = bs → Rel Hy X B St w0 (fun _ => True) s ι a' w' → LeavesInM Fence.wide nn P fn a.tmps R bs u w') → LeavesInM Fence.wide nn P fn a.tmps R (L.map mark ++ bs) u w
 | [], w, a, h, hd, n1, n4, n5, fin => fin w a rfl hd h
 | D :: L, w, a, h, hd, n1, n4, n5, fin => by
  obtain ⟨h', m1, m4, m5⟩ := h.take (Dp' := fun _ => True) (ds := L.map mark ++ bs) trivial ⟨bs, rfl, hbs⟩ n1 n2 n4 n5
  exact ⟨hu, .inl ⟨D, _, rfl, zkj (n5 D List.mem_cons_self).2.2, zeg hu hbs n2 L _ { a with defers := L.map mark ++ bs } h' rfl m1 m4 m5 fin⟩⟩
def AllM (ds : List Deferred) : Prop := ∀ d ∈ ds, ∃ D, d = mark D
theorem AllM.cons {D : Nat} {ds : List Deferred} (h : AllM ds) : AllM (mark D :: ds) := fun d hd => by
 rcases List.mem_cons.1 hd with rfl | hd
 ·exact ⟨D, rfl⟩
 ·exact h d hd
theorem AllM.nil : AllM [] := fun _ h => by cases h
theorem Rel.anyD (h : Rel Hy X B St w0 Dp s ι a w) : Rel Hy X B St w0 (fun _ => True) s ι a w := ⟨h.below, h.hB, h.ob, h.inj, h.tm, trivial, h.sz, h.stB, h.hy, h.x, h.xd⟩
theorem AllM.none {L : List Nat} {bs : List Deferred} (h : AllM (L.map mark ++ bs)) (hbs : ∀ d ∈ bs, ∀ D, d.target ≠ .collected D) : bs = [] := by
 cases bs with
 | nil => rfl
 | cons d bs =>
  obtain ⟨D, e⟩ := h d (List.mem_append_right _ List.mem_cons_self)
  exact absurd (by rw [e]; rfl) (hbs d List.mem_cons_self D)
theorem zeh {nn : Nat} {fn : Func} {R : Ending → World → Prop} (h : Rel Hy X B St w0 AllM s ι a w) (fin : ∀ (w' : World) (a' : Act), a'.tmps = a.tmps → Rel Hy X B St w0 (fun _ => True) s ι a' w' → ∃ v, (results fn a.tmps).run P w' = .ok v w' ∧ R (.returned v) w') : LeavesInM Fence.wide nn P fn a.tmps R a.defers .returning w := by
 obtain ⟨N, L, n1, n2, ⟨bs, n3, hbs⟩, n4, n5⟩ := h.xd
 have hb := AllM.none (n3 ▸ h.dv) hbs
 subst hb
 rw [n3]
 exact zeg (by simp) hbs n2 L w a h.anyD n3 n1 n4 n5 fun w' a' e _ hR => fin w' a' e hR
theorem zkk {nn : Nat} {fn : Func} {R : Ending → World → Prop} {chain : List PanicEntry} (h : Rel Hy X B St w0 AllM s ι a w) {z : A} {v : Value} (hv : Ra w (Sd B St s.o ι w) s.o ι v z) (fin : ∀ (w' : World) (a' : Act), Rel Hy X B St w0 (fun _ => True) s ι a' w' → Ra w' (Sd B St s.o ι w') s.o ι v z → R (.panicked chain) w') : LeavesInM Fence.wide nn P fn a.tmps R a.defers (.panicking chain) w := by
 obtain ⟨N, L, n1, n2, ⟨bs, n3, hbs⟩, n4, n5⟩ := h.xd
 have hb := AllM.none (n3 ▸ h.dv) hbs
 subst hb
 rw [n3]
 have n2' : XC (XT X fun w D o ι => Ra w D o ι v z ∧ N ≤ w.heap.size) N := fun w1 D o ι w' D' o' ι' mT mA hz hk hx => ⟨n2 _ _ _ _ _ _ _ _ mT mA hz hk hx.1, mA _ _ hx.2.1, Nat.le_trans hx.2.2 hz⟩
 have h0 : Rel Hy (XT X fun w D o ι => Ra w D o ι v z ∧ N ≤ w.heap.size) B St w0 (fun _ => True) s ι a w := ⟨h.below, h.hB, h.ob, h.inj, h.tm, trivial, h.sz, h.stB, h.hy, ⟨h.x, hv, n1⟩, N, L, n1, n2', ⟨[], n3, hbs⟩, n4, n5⟩
 exact zeg (by simp) hbs n2' L w a h0 n3 n1 n4 n5 fun w' a' _ e hR =>
  fin w' a' ⟨hR.below, hR.hB, hR.ob, hR.inj, hR.tm, trivial, hR.sz, hR.stB, hR.hy, hR.x.1, N, [], hR.x.2.2, n2, by rw [e]; exact DefIs.nil, List.nodup_nil, fun D hD => (by cases hD)⟩ hR.x.2.1
def z8 (tt : Tys) (rs : List ResultVar) (R : List A → (Nat → O) → Prop) : Exit → S → Prop
 | .normal, s => zaB tt s rs fun as => R as s.o
 | .ret, s => zaB tt s rs fun as => R as s.o
 | _, _ => False
def zei : List Value → Value
 | [v] => v
 | vs => .tuple vs.toArray
def rdR (a : Act) : ResultVar → Sem Value
 | .tmp t => pure (a.tmps.getD t undef)
 | .cell b t => do loadVar t (← asAddr (a.tmps.getD b undef))
theorem zcN (hT : Tys.ok P tt) (h : Rel Hy X B St w0 Dp s ι a w) : ∀ (rs : List ResultVar) {K : List A → Prop}, zaB tt s rs K →
  ∃ vs as, (rs.mapM (rdR a)).run P w = .ok vs w ∧ vs.length = as.length ∧ (∀ (j : Nat) x, as[j]? = some x → Ra w (Sd B St s.o ι w) s.o ι (vs.getD j undef) x) ∧ K as
 | [], K, hk => ⟨[], [], rfl, rfl, fun j x hx => (by simp at hx), hk⟩
 | .tmp t :: l, K, hk => by
  obtain ⟨vs, as, h1, h2, h4, hk⟩ := zcN hT h l hk
  refine ⟨a.tmps.getD t undef :: vs, _ :: as, ?_, by simp [h2], fun j x hx => ?_, hk⟩
  ·rw [List.mapM_cons, Sem.run_bind]
   unfold rdR at h1 ⊢
   simp only [Sem.run_pure, Result.andThen, Sem.run_bind, h1]
  ·cases j with
   | zero => cases hx; exact h.ev (.tmp t)
   | succ j => exact h4 j x hx
 | .cell b t :: l, K, hk => by
  obtain ⟨v, y, r1, r2, hk⟩ := ziS hT h t (.tmp b) _ hk
  obtain ⟨vs, as, h1, h2, h4, hk⟩ := zcN hT h l hk
  have r1 : (Instr.loadAt t (a.tmps.getD b undef)).run P w = .ok v w := r1
  refine ⟨v :: vs, y :: as, ?_, by simp [h2], fun j x hx => ?_, hk⟩
  ·rw [List.mapM_cons, Sem.run_bind]
   have : (rdR a (.cell b t)).run P w = .ok v w := by
    show (do loadVar t (← asAddr (a.tmps.getD b undef)) : Sem Value).run P w = _
    revert r1
    generalize a.tmps.getD b undef = q
    intro r1
    unfold Instr.loadAt at r1
    rw [Sem.run_bind] at r1 ⊢
    cases q <;> first | (simp [Instr.sureAddr, Result.andThen] at r1; done) | skip
    rename_i p
    cases p with
    | none => simp [Instr.sureAddr, Result.andThen] at r1
    | some ad => simpa [Instr.sureAddr, asAddr, Result.andThen] using r1
   rw [this]
   simp only [Result.andThen, Sem.run_bind, h1, Sem.run_pure]
  ·cases j with
   | zero => cases hx; exact r2
   | succ j => exact h4 j x hx
theorem zdJ (fn : Func) (vs : List Value) (h : (fn.results.toList.mapM (rdR a)).run P w = .ok vs w) : (results fn a.tmps).run P w = .ok (zei vs) w := by
 have e : results fn a.tmps = (do
   let vs ← fn.results.mapM (rdR a)
   pure (if h : vs.size = 1 then vs[0] else .tuple vs)) := by
  unfold results
  refine congrArg (fun f : ResultVar → Sem Value => (do
   let vs ← fn.results.mapM f
   pure (if h : vs.size = 1 then vs[0] else .tuple vs) : Sem Value)) ?_
  funext r
  cases r <;> rfl
 rw [e, Array.mapM_eq_mapM_toList, Sem.run_bind, Sem.run_map, h]
 simp only [Result.andThen]
 match vs with
 | [] => rfl
 | [r] => rfl
 | r :: r' :: vs => simp [zei]
theorem zkl {D : Nat → Prop} : ∀ (ts : List T) (vs : List Value), ts.length = vs.length → (∀ (j : Nat) t, ts[j]? = some t → Rt w D (vs.getD j undef) t) → Rres w D (zei vs) ts
 | [], [], _, _ => ⟨#[], fun _ => undef, rfl, rfl, fun j hj => absurd hj (Nat.not_lt_zero j), fun j x hx => (by simp at hx)⟩
 | [x], [v], _, h => h 0 x rfl
 | x :: y :: ts, v :: u :: vs, hl, h => by
  refine ⟨(v :: u :: vs).toArray, fun j => (v :: u :: vs).getD j undef, rfl, by simpa using hl.symm, fun j hj => ?_, fun j x hx => h j x hx⟩
  have : j < (v :: u :: vs).length := by rw [← hl]; exact hj
  rw [List.getElem?_toArray, List.getElem?_eq_getElem this]
  simp only [List.getD_eq_getElem?_getD, List.getElem?_eq_getElem this, Option.getD_some]
theorem zej {D : Nat → Prop} {o : Nat → O} : ∀ (ts : List A) (vs : List Value), ts.length = vs.length → (∀ (j : Nat) t, ts[j]? = some t → Ra w D o ι (vs.getD j undef) t) → RresM w D o ι (zei vs) ts
 | [], [], _, _ => ⟨#[], fun _ => undef, rfl, rfl, fun j hj => absurd hj (Nat.not_lt_zero j), fun j x hx => (by simp at hx)⟩
 | [x], [v], _, h => h 0 x rfl
 | x :: y :: ts, v :: u :: vs, hl, h => by
  refine ⟨(v :: u :: vs).toArray, fun j => (v :: u :: vs).getD j undef, rfl, by simpa using hl.symm, fun j hj => ?_, fun j x hx => h j x hx⟩
  have : j < (v :: u :: vs).length := by rw [← hl]; exact hj
  rw [List.getElem?_toArray, List.getElem?_eq_getElem this]
  simp only [List.getD_eq_getElem?_getD, List.getElem?_eq_getElem this, Option.getD_some]
theorem zek {n : Nat} {args : List A} {o : Nat → O} {cargs : Array Value} (hMm : Mem Hy X B St w0 o ι w) (hn : args.length ≤ n) (hsz : cargs.size = args.length) (harg : ∀ (j : Nat) v x, cargs[j]? = some v → args[j]? = some x → Ra w (Sd B St o ι w) o ι v x) (hD : Dp []) :
  Rel Hy X B St w0 Dp (s0 n args o) ι { tmps := cargs ++ Array.replicate (n - cargs.size) undef, defers := [] } w := by
 refine ⟨hMm.below, hMm.hB, hMm.ob, hMm.inj, fun t v hv => ?_, hD, ?_, hMm.stB, hMm.hy, hMm.x, by obtain ⟨N, n1, n2⟩ := hMm.xc; exact ⟨N, [], n1, n2, DefIs.nil, List.nodup_nil, fun D hD => (by cases hD)⟩⟩
 ·show Ra w _ _ _ v (match args[t]? with | some x => x | none => .junk)
  cases ht : args[t]? with
  | none => exact .junk
  | some x =>
   have htl := (List.getElem?_eq_some_iff.1 ht).1
   rw [Array.getElem?_append_left (by omega)] at hv
   exact harg t v x hv ht
 ·simp [s0]
  omega
theorem zax (hT : Tys.ok P tt) (hM : P.follows .mixedOrders = true) {f : FuncId} {fn : Func} {c : Code} {args : List A} {o : Nat → O} {R : List A → (Nat → O) → Prop} (hf : P.funcs[f]? = some fn) (hb : fn.body = some c) (hnm : fn.name ≠ "runtime.NumGoroutine")
  (hn : args.length ≤ fn.ntmps) (h : cwp P Hy tt cls E0 true c (z8 tt fn.results.toList R) (s0 fn.ntmps args o)) : Cm P Hy f args o R := by
 refine ⟨⟨fn, hf, hnm, by rw [hb]; simp⟩, fun X B St w0 ι w cargs hMm hsz harg => ?_⟩
 refine callsIn_wide.1 (callsIn_of_wp_marks (F := Fence.wide) (n := 0) hf hb trivial ?_)
 have h0 : Rel Hy X B St w0 AllM (s0 fn.ntmps args o) ι { tmps := cargs ++ Array.replicate (fn.ntmps - cargs.size) undef, defers := [] } w := by
  refine ⟨hMm.below, hMm.hB, hMm.ob, hMm.inj, fun t v hv => ?_, AllM.nil, ?_, hMm.stB, hMm.hy, hMm.x, by obtain ⟨N, n1, n2⟩ := hMm.xc; exact ⟨N, [], n1, n2, DefIs.nil, List.nodup_nil, fun D hD => (by cases hD)⟩⟩
  ·show Ra w _ _ _ v (match args[t]? with | some x => x | none => .junk)
   cases ht : args[t]? with
   | none => exact .junk
   | some x =>
    have htl := (List.getElem?_eq_some_iff.1 ht).1
    rw [Array.getElem?_append_left (by omega)] at hv
    exact harg t v x hv ht
  ·simp [s0]
   omega
 refine zbb (E := E0) (ro := none) (nn := 0) (top := true) hT hM c (fun _ => ⟨rfl, fun _ _ => AllM.cons⟩) (.inl fun _ _ _ e => e) h0 (fun e s ι' a w' hR hk => ?_) h
 have fin : (zaB tt s fn.results.toList fun as => R as s.o) → LeavesInM Fence.wide 0 P fn a.tmps (fun e w' => ∃ v ι' o' rs, e = Ending.returned v ∧ R rs o' ∧ Mem Hy X B St w0 o' ι' w' ∧ RresM w' (Sd B St o' ι' w') o' ι' v rs) a.defers .returning w' := fun hk => zeh hR fun w2 a2 ha hR2 => by
  obtain ⟨vs, as, h1, h2, h3, hk⟩ := zcN hT hR2 _ hk
  rw [← ha]
  exact ⟨_, zdJ fn vs h1, _, ι', s.o, as, rfl, hk, hR2.mem, zej as vs h2.symm h3⟩
 cases e with
 | normal => exact fin hk
 | ret => exact fin hk
 | _ => exact hk.elim
theorem zI (hT : Tys.ok P tt) (hM : P.follows .mixedOrders = true) {f : FuncId} {fn : Func} {c : Code} {args : List T} {r : List T} (hf : P.funcs[f]? = some fn) (hb : fn.body = some c) (hnm : fn.name ≠ "runtime.NumGoroutine")
  (hn : args.length ≤ fn.ntmps) (h : cwp P Hy tt cls E0 true c (z8 tt fn.results.toList fun as o => zbc o as fun ts _ => ts = r) (s0 fn.ntmps (args.map A.t) o0)) : Ct P Hy f args r := by
 refine ⟨⟨fn, hf, hnm, by rw [hb]; simp⟩, fun w cargs D hD hHy hsz harg => ?_⟩
 refine callsIn_wide.1 (callsIn_of_wp_marks (F := Fence.wide) (n := 0) hf hb trivial ?_)
 have h0 : Rel Hy (fun _ _ _ _ => True) w.heap.size D w AllM (s0 fn.ntmps (args.map A.t) o0) (fun _ => undef) { tmps := cargs ++ Array.replicate (fn.ntmps - cargs.size) undef, defers := [] } w := by
  have hm : ∀ i, mb (s0 fn.ntmps (args.map A.t) o0).o (fun _ => undef) i = none := fun i => rfl
  refine ⟨Below.refl _ _, Nat.le_refl _, fun id => trivial, fun i j b e => (by rw [hm] at e; cases e), fun t v hv => ?_, AllM.nil, ?_, hD, hHy, trivial, 0, [], Nat.zero_le _, fun _ _ _ _ _ _ _ _ _ _ _ _ h => h, DefIs.nil, List.nodup_nil, fun D hD => (by cases hD)⟩
  ·show Ra w _ _ _ v (match (args.map A.t)[t]? with | some x => x | none => .junk)
   rw [List.getElem?_map]
   cases ht : args[t]? with
   | none => exact .junk
   | some x =>
    have htl := (List.getElem?_eq_some_iff.1 ht).1
    rw [Array.getElem?_append_left (by omega)] at hv
    exact .t ((harg t v x hv ht).wide (fun g hg => ⟨.inl hg, hD g hg, fun i e => (by rw [hm] at e; cases e)⟩))
  ·simp [s0]
   omega
 refine zbb (E := E0) (ro := none) (nn := 0) (top := true) hT hM c (fun _ => ⟨rfl, fun _ _ => AllM.cons⟩) (.inl fun _ _ _ e => e) h0 (fun e s ι a w' hR hk => ?_) h
 have fin : (zaB tt s fn.results.toList fun as => zbc s.o as fun ts _ => ts = r) → LeavesInM Fence.wide 0 P fn a.tmps (fun e w' => ∃ v, e = Ending.returned v ∧ Rres w' (fun g => D g ∨ (w.heap.size ≤ g ∧ g < w'.heap.size)) v r ∧ Below w.heap.size w w') a.defers .returning w' := fun hk => zeh hR fun w2 a2 ha hR => by
  obtain ⟨vs, as, h1, h2, h3, hk⟩ := zcN hT hR _ hk
  rw [← ha]
  refine ⟨_, zdJ fn vs h1, _, rfl, ?_, hR.below⟩
  obtain ⟨ts, ids, g1, g2, g3, rfl⟩ := zcQ hR as (fun j => vs.getD j undef) h3 hk
  have cell : ∀ (j : Nat) t, ts[j]? = some t → Rt w2 (fun g => D g ∨ (w.heap.size ≤ g ∧ g < w2.heap.size)) (vs.getD j undef) t := fun j t ht =>
   g3 j t ht _ (fun g hg => hg.1.imp id (fun h => ⟨h, hg.2.1⟩)) (fun q _ g hg => .inr (hR.mbB hg))
  exact zkl _ _ (by rw [g2, h2]) cell
 cases e with
 | normal => exact fin hk
 | ret => exact fin hk
 | _ => exact hk.elim
def zab (tt : Tys) (rs : List ResultVar) (R : List A → (Nat → O) → Prop) (Rp : A → (Nat → O) → Prop) : Exit → S → Prop
 | .normal, s => zaB tt s rs fun as => R as s.o
 | .ret, s => zaB tt s rs fun as => R as s.o
 | .panic _, s => Rp (s.t s.n) s.o
 | _, _ => False
theorem zca (hT : Tys.ok P tt) (hM : P.follows .mixedOrders = true) {f : FuncId} {fn : Func} {c : Code} {args : List A} {o : Nat → O} {R : List A → (Nat → O) → Prop} {Rp : A → (Nat → O) → Prop} (hf : P.funcs[f]? = some fn) (hb : fn.body = some c) (hnm : fn.name ≠ "runtime.NumGoroutine")
  (hn : args.length ≤ fn.ntmps) (h : cwp P Hy tt cls E0 true c (zab tt fn.results.toList R Rp) (s0 fn.ntmps args o)) : Cp P Hy f args o R Rp := by
 refine ⟨⟨fn, hf, hnm, by rw [hb]; simp⟩, fun X B St w0 ι w cargs hMm hsz harg => ?_⟩
 refine callsIn_wide.1 (callsIn_of_wp_marks (F := Fence.wide) (n := 0) hf hb trivial ?_)
 have h0 : Rel Hy X B St w0 AllM (s0 fn.ntmps args o) ι { tmps := cargs ++ Array.replicate (fn.ntmps - cargs.size) undef, defers := [] } w := zek hMm hn hsz harg AllM.nil
 refine zbb (E := E0) (ro := none) (nn := 0) (top := true) hT hM c (fun _ => ⟨rfl, fun _ _ => AllM.cons⟩) (.inl fun _ _ _ e => e) h0 (fun e s ι' a w' hR hk => ?_) h
 have fin : (zaB tt s fn.results.toList fun as => R as s.o) → LeavesInM Fence.wide 0 P fn a.tmps (fun e w' => (∃ v ι' o' rs, e = Ending.returned v ∧ R rs o' ∧ Mem Hy X B St w0 o' ι' w' ∧ RresM w' (Sd B St o' ι' w') o' ι' v rs) ∨ ∃ v ι' o' x, e = Ending.panicked [{ v, recovered := false }] ∧ Rp x o' ∧ Mem Hy X B St w0 o' ι' w' ∧ Ra w' (Sd B St o' ι' w') o' ι' v x) a.defers .returning w' := fun hk => zeh hR fun w2 a2 ha hR2 => by
  obtain ⟨vs, as, h1, h2, h3, hk⟩ := zcN hT hR2 _ hk
  rw [← ha]
  exact ⟨_, zdJ fn vs h1, .inl ⟨_, ι', s.o, as, rfl, hk, hR2.mem, zej as vs h2.symm h3⟩⟩
 cases e with
 | normal => exact fin hk
 | ret => exact fin hk
 | panic ch => exact fun v hv => zkk hR hv fun w2 a2 hR2 hv2 => .inr ⟨v, ι', s.o, _, rfl, hk, hR2.mem, hv2⟩
 | _ => exact hk.elim
theorem zhd (hT : Tys.ok P tt) (hM : P.follows .mixedOrders = true) {f : FuncId} {fn : Func} {c : Code} {l : Nat} {Y : YC} {args : List A} {o : Nat → O} {R : List A → (Nat → O) → Prop} (hf : P.funcs[f]? = some fn) (hb : fn.body = some c) (hnm : fn.name ≠ "runtime.NumGoroutine")
  (hn : args.length ≤ fn.ntmps) (h : cwp P Hy tt cls ⟨l, Y, fun _ => False⟩ false c (z8 tt fn.results.toList R) (s0 fn.ntmps args o)) : CmY P Hy f l Y args o R := by
 refine ⟨⟨fn, hf, hnm, by rw [hb]; simp⟩, fun X B St w0 ι w cargs n hMm hsz harg hYO => ?_⟩
 refine callsIn_of_wp_marks (F := Fence.wide) (n := n + 1) hf hb trivial ?_
 have h0 : Rel Hy X B St w0 (fun d => d = []) (s0 fn.ntmps args o) ι { tmps := cargs ++ Array.replicate (fn.ntmps - cargs.size) undef, defers := [] } w := zek hMm hn hsz harg rfl
 refine zbb (E := ⟨l, Y, fun _ => False⟩) (ro := none) (nn := n + 1) (top := false) hT hM c (fun e => by cases e) (.inr ⟨rfl, fun _ h => h, hYO⟩) h0 (fun e s ι' a w' hR hk => ?_) h
 have hR' : Rel Hy X B St w0 AllM s ι' a w' := ⟨hR.below, hR.hB, hR.ob, hR.inj, hR.tm, (by rw [show a.defers = [] from hR.dv]; exact AllM.nil), hR.sz, hR.stB, hR.hy, hR.x, hR.xd⟩
 have fin : (zaB tt s fn.results.toList fun as => R as s.o) → LeavesInM Fence.wide (n + 1) P fn a.tmps (fun e w' => ∃ v ι' o' rs, e = Ending.returned v ∧ R rs o' ∧ Mem Hy X B St w0 o' ι' w' ∧ RresM w' (Sd B St o' ι' w') o' ι' v rs) a.defers .returning w' := fun hk => zeh hR' fun w2 a2 ha hR2 => by
  obtain ⟨vs, as, h1, h2, h3, hk⟩ := zcN hT hR2 _ hk
  rw [← ha]
  exact ⟨_, zdJ fn vs h1, _, ι', s.o, as, rfl, hk, hR2.mem, zej as vs h2.symm h3⟩
 cases e with
 | normal => exact fin hk
 | ret => exact fin hk
 | _ => exact hk.elim
theorem Ct.calls {f : FuncId} {args : List T} {r : List T} (h : Ct P Hy f args r) (w : World) (cargs : Array Value) (hHy : ∀ w', Below w.heap.size w w' → Hy w') (hsz : cargs.size = args.length) (harg : ∀ (j : Nat) v t, cargs[j]? = some v → args[j]? = some t → Rt w (fun g => g < w.heap.size) v t) :
  Calls P f cargs w fun e w' => ∃ v, e = .returned v ∧ Rres w' (fun g => g < w'.heap.size) v r ∧ Below w.heap.size w w' :=
 (h.go w cargs (fun g => g < w.heap.size) (fun _ h => h) hHy hsz harg).mono (fun e w' ⟨v, h1, h2, h3⟩ => ⟨v, h1, h2.imp (fun v t _ ht => ht.wide (fun g hg => by
  rcases hg with hg | hg
  ·exact Nat.lt_of_lt_of_le hg h3.size
  ·exact hg.2)), h3⟩)
end
end Go.Proofs.YtbhoeanfnbkenaaGreatDoor
namespace Go.Proofs.YtbhoeanfnbkenaaGreatDoor
open Go.RowKit
section
variable {P : Program} {tt : Tys} {Hy : World → Prop} {X : World → (Nat → Prop) → (Nat → O) → (Nat → Value) → Prop} {cls : Nat → Nat} {B : Nat} {St : Nat → Prop} {w0 w : World} {s : S} {ι : Nat → Value} {a : Act}
def zdK (x : Option A) (v : Value) : FrameMode := match x with
 | none => .returning
 | some _ => .panicking [{ v, recovered := false }]
structure Cr (P : Program) (Hy : World → Prop) (f : FuncId) (args : List A) (o : Nat → O) (x : Option A) (R : (Nat → O) → Prop) : Prop where
 fn : ∃ fn, P.funcs[f]? = some fn ∧ fn.name ≠ "runtime.NumGoroutine" ∧ fn.body ≠ none
 go : ∀ X B St w0 ι w (cargs : Array Value) (v : Value), Mem Hy X B St w0 o ι w → cargs.size = args.length → (∀ (j : Nat) v x, cargs[j]? = some v → args[j]? = some x → Ra w (Sd B St o ι w) o ι v x) →
  (∀ z, x = some z → Ra w (Sd B St o ι w) o ι v z) →
  CallsDIn Fence.wide 0 P f cargs (zdK x v) w fun e u' w' => (∃ r, e = .returned r) ∧ settle u' = .returning ∧ ∃ ι' o', R o' ∧ Mem Hy X B St w0 o' ι' w'
theorem zkm {c₀ : Frame} {cs : List Frame} (h : c₀.mode = .returning) : recoverD (c₀ :: cs) = none := by
 simp [recoverD, h]
theorem zkn {c₀ : Frame} {cs : List Frame} {v : Value} (h : c₀.mode = .panicking [{ v, recovered := false }]) : recoverD (c₀ :: cs) = some (v, { c₀ with mode := .panicking [{ v, recovered := true }] } :: cs) := by
 simp [recoverD, h]
def zac (R : (Nat → O) → Prop) : Exit → S → Prop
 | .normal, s => R s.o
 | .ret, s => R s.o
 | _, _ => False
theorem zhe (hT : Tys.ok P tt) (hM : P.follows .mixedOrders = true) {f : FuncId} {fn : Func} {id : Nat} {ops : Array Oper} {y : Code} {args : List A} {o : Nat → O} {x : Option A} {R : (Nat → O) → Prop} {t u : Nat} {tys : Array TypeId} {ty1 ty2 : TypeId} {p1 p2 : String} {af1 af2 : Array Edge}
  (hf : P.funcs[f]? = some fn) (hb : fn.body = some (.seq (.region id ops false) y)) (hops : ops.toList = [⟨some t, .call ⟨.builtin .recover, #[], tys⟩, ty1, p1, af1, none⟩, ⟨some u, .assign (.tmp t), ty2, p2, af2, none⟩]) (hres : fn.results = #[]) (hnm : fn.name ≠ "runtime.NumGoroutine")
  (hn : args.length ≤ fn.ntmps) (ht : t < fn.ntmps) (h : cwp P Hy tt cls E0 false y (zac R) (((s0 fn.ntmps args o).put (some t) (x.getD (.t .nif))).put (some u) (x.getD (.t .nif)))) : Cr P Hy f args o x R := by
 refine ⟨⟨fn, hf, hnm, by rw [hb]; simp⟩, fun X B St w0 ι w cargs v hMm hsz harg hv => ?_⟩
 refine callsDIn_of_wpSIn hf hb trivial fun c₀ cs hc₀ => ?_
 have h0 : Rel Hy X B St w0 (fun d => d = []) (s0 fn.ntmps args o) ι { tmps := cargs ++ Array.replicate (fn.ntmps - cargs.size) undef, defers := [] } w := zek hMm hn hsz harg rfl
 generalize ha0 : ({ tmps := cargs ++ Array.replicate (fn.ntmps - cargs.size) undef, defers := [] } : Act) = a0 at h0 ⊢
 have htn : t < a0.tmps.size := by rw [h0.sz]; exact ht
 obtain ⟨rv, u', hrec, hset, hrv⟩ : ∃ (rv : Value) (u' : FrameMode), (match recoverD (c₀ :: cs) with | some (v, cs') => (v, cs') | none => (.nilIface, c₀ :: cs)) = (rv, { c₀ with mode := u' } :: cs) ∧ settle u' = .returning ∧ Ra w (Sd B St (s0 fn.ntmps args o).o ι w) (s0 fn.ntmps args o).o ι rv (x.getD (.t .nif)) := by
  cases x with
  | none =>
   rw [zkm hc₀]
   have hm : c₀.mode = FrameMode.returning := hc₀
   have hc : ({ c₀ with mode := .returning } : Frame) = c₀ := by cases c₀; cases hm; rfl
   exact ⟨.nilIface, .returning, by rw [hc], rfl, .t .nif⟩
  | some z =>
   rw [zkn hc₀]
   exact ⟨v, _, rfl, rfl, hv z rfl⟩
 have h1 := h0.pure (some t) (x.getD (.t .nif)) rv (fun _ => hrv)
 have h2 := h1.pure (some u) (x.getD (.t .nif)) rv (fun _ => by
  have e : ((s0 fn.ntmps args o).put (some t) (x.getD (.t .nif))).o = (s0 fn.ntmps args o).o := rfl
  rw [e]
  exact hrv)
 have hfin : y.wpSIn Fence.wide 0 P (bodyPostS P fn c₀ cs fun e u' w' => (∃ r, e = .returned r) ∧ settle u' = .returning ∧ ∃ ι' o', R o' ∧ Mem Hy X B St w0 o' ι' w') ((a0.put (some t) rv).put (some u) rv) ({ c₀ with mode := u' } :: cs) w := by
  refine wpSIn_of_wpIn rfl (zbb (E := E0) (ro := none) (nn := 0) (top := false) hT hM y (fun e => by cases e) (.inl fun _ _ _ e => e) h2 (fun e s ι' a w' hR hk => ?_) h)
  have fin : R s.o → bodyPostS P fn c₀ cs (fun e u' w' => (∃ r, e = .returned r) ∧ settle u' = .returning ∧ ∃ ι' o', R o' ∧ Mem Hy X B St w0 o' ι' w') .normal a ({ c₀ with mode := u' } :: cs) w' := fun hk =>
   ⟨hR.dv, u', rfl, .tuple #[], by simp [results, hres, go_sem], ⟨_, rfl⟩, hset, ι', s.o, hk, hR.mem⟩
  cases e with
  | normal => exact fin hk
  | ret => exact fin hk
  | _ => exact hk.elim
 refine wpSIn_seq ?_
 have hsz2 : ops.size = 2 := by rw [← Array.length_toList, hops]; rfl
 have hg0 : ops[0]? = some ⟨some t, .call ⟨.builtin .recover, #[], tys⟩, ty1, p1, af1, none⟩ := by rw [← Array.getElem?_toList, hops]; rfl
 have hg1 : ops[1]? = some ⟨some u, .assign (.tmp t), ty2, p2, af2, none⟩ := by rw [← Array.getElem?_toList, hops]; rfl
 refine wpSIn_region ?_
 rw [hsz2]
 show wpOpsSIn Fence.wide 0 P ops _ [0, 1] a0 (c₀ :: cs) w
 unfold wpOpsSIn
 rw [hg0]
 refine ⟨fun _ _ => trivial, ?_⟩
 rw [if_pos (by simp [Region.wanted])]
 have run : (execOp a0.eval ⟨some t, .call ⟨.builtin .recover, #[], tys⟩, ty1, p1, af1, none⟩).run P w = .ok .recover w := by
  simp [go_sem]
 rw [run]
 have step2 : ∀ cs', cs' = { c₀ with mode := u' } :: cs → wpOpsSIn Fence.wide 0 P ops (Exit.thenS (y.wpSIn Fence.wide 0 P (bodyPostS P fn c₀ cs fun e u' w' => (∃ r, e = .returned r) ∧ settle u' = .returning ∧ ∃ ι' o', R o' ∧ Mem Hy X B St w0 o' ι' w')) (bodyPostS P fn c₀ cs fun e u' w' => (∃ r, e = .returned r) ∧ settle u' = .returning ∧ ∃ ι' o', R o' ∧ Mem Hy X B St w0 o' ι' w')) [1] (a0.put (some t) rv) cs' w := by
  rintro cs' rfl
  unfold wpOpsSIn
  rw [hg1]
  refine ⟨fun _ _ => trivial, ?_⟩
  rw [if_pos (by simp [Region.wanted])]
  have run2 : (execOp (a0.put (some t) rv).eval ⟨some u, .assign (.tmp t), ty2, p2, af2, none⟩).run P w = .ok (.value rv) w := by
   simp [execOp, go_sem]
   intro h
   omega
  rw [run2]
  exact hfin
 cases hq : recoverD (c₀ :: cs) with
 | none =>
  rw [hq] at hrec
  simp only [Prod.mk.injEq] at hrec
  obtain ⟨e1, e2⟩ := hrec
  subst e1
  exact step2 _ e2
 | some q =>
  obtain ⟨qv, qcs⟩ := q
  rw [hq] at hrec
  simp only [Prod.mk.injEq] at hrec
  obtain ⟨e1, e2⟩ := hrec
  subst e1
  exact step2 _ e2
def zaa (P : Program) (Hy : World → Prop) (tt : Tys) (rs : List ResultVar) (g : FuncId) (caps : List A) (R : List A → (Nat → O) → Prop) : Exit → S → Prop
 | .normal, s => ∃ Rc, Cr P Hy g caps s.o none Rc ∧ ∀ o', Rc o' → zaB tt ⟨s.n, s.t, o'⟩ rs fun as => R as o'
 | .ret, s => ∃ Rc, Cr P Hy g caps s.o none Rc ∧ ∀ o', Rc o' → zaB tt ⟨s.n, s.t, o'⟩ rs fun as => R as o'
 | .panic _, s => ∃ Rc, Cr P Hy g caps s.o (some (s.t s.n)) Rc ∧ ∀ o', Rc o' → zaB tt ⟨s.n, s.t, o'⟩ rs fun as => R as o'
 | _, _ => False
def DpC (d : Deferred) (ds : List Deferred) : Prop := ∃ M, AllM M ∧ ds = M ++ [d]
theorem DpC.bs {d : Deferred} (hd : ∀ D, d.target ≠ .collected D) : ∀ {L : List Nat} {M bs : List Deferred}, L.map mark ++ bs = M ++ [d] → AllM M → (∀ d ∈ bs, ∀ D, d.target ≠ .collected D) → bs = [d]
 | [], [], bs, e, _, _ => by simpa using e
 | [], m :: M, bs, e, hM, hbs => by
  obtain ⟨D, hm⟩ := hM m List.mem_cons_self
  have : m ∈ bs := by
   have e : bs = m :: (M ++ [d]) := by simpa using e
   rw [e]
   exact List.mem_cons_self
  exact absurd (by rw [hm]; rfl) (hbs m this D)
 | D :: L, [], bs, e, _, _ => by
  simp only [List.map_cons, List.cons_append, List.nil_append, List.cons.injEq] at e
  exact absurd (by rw [← e.1]; rfl) (hd D)
 | D :: L, m :: M, bs, e, hM, hbs => by
  simp only [List.map_cons, List.cons_append, List.cons.injEq] at e
  exact DpC.bs hd e.2 (fun x hx => hM x (List.mem_cons_of_mem _ hx)) hbs
abbrev XD (X : World → (Nat → Prop) → (Nat → O) → (Nat → Value) → Prop) (cv : Array Value) (caps : List A) (N0 : Nat) : World → (Nat → Prop) → (Nat → O) → (Nat → Value) → Prop := XT X fun w D o ι => (∀ (j : Nat) v x, cv[j]? = some v → caps[j]? = some x → Ra w D o ι v x) ∧ N0 ≤ w.heap.size
theorem zfj (hT : Tys.ok P tt) {nn : Nat} {fn : Func} {R : List A → (Nat → O) → Prop} {g : FuncId} {caps : List A} {cv : Array Value} {x : Option A} {v : Value} {N0 : Nat} (nX : XC X N0) (hcv : cv.size = caps.length)
  (h : Rel Hy (XD X cv caps N0) B St w0 (DpC { target := .fn (.func g) cv, args := #[] }) s ι a w) (hv : ∀ z, x = some z → Ra w (Sd B St s.o ι w) s.o ι v z)
  (hk : ∃ Rc, Cr P Hy g caps s.o x Rc ∧ ∀ o', Rc o' → zaB tt ⟨s.n, s.t, o'⟩ fn.results.toList fun as => R as o') :
  LeavesInM Fence.wide nn P fn a.tmps (fun e w' => ∃ v ι' o' rs, e = Ending.returned v ∧ R rs o' ∧ Mem Hy X B St w0 o' ι' w' ∧ RresM w' (Sd B St o' ι' w') o' ι' v rs) a.defers (zdK x v) w := by
 obtain ⟨Rc, hc, hk⟩ := hk
 obtain ⟨N, L, n1, n2, ⟨bs, n3, hbs⟩, n4, n5⟩ := h.xd
 obtain ⟨M, hM, e⟩ := h.dv
 have hb := DpC.bs (fun D => by simp) (n3.symm.trans e) hM hbs
 subst hb
 rw [n3]
 have hu : zdK x v ≠ .run := by cases x <;> simp [zdK]
 have n2' : XC (XT (XD X cv caps N0) fun w D o ι => (∀ z, x = some z → Ra w D o ι v z) ∧ N ≤ w.heap.size) N := fun w1 D o ι w' D' o' ι' mT mA hz hk hx => ⟨n2 _ _ _ _ _ _ _ _ mT mA hz hk hx.1, fun z e => mA _ _ (hx.2.1 z e), Nat.le_trans hx.2.2 hz⟩
 have h0 : Rel Hy (XT (XD X cv caps N0) fun w D o ι => (∀ z, x = some z → Ra w D o ι v z) ∧ N ≤ w.heap.size) B St w0 (fun _ => True) s ι a w := ⟨h.below, h.hB, h.ob, h.inj, h.tm, trivial, h.sz, h.stB, h.hy, ⟨h.x, hv, n1⟩, N, L, n1, n2', ⟨_, n3, hbs⟩, n4, n5⟩
 refine zeg hu hbs n2' L w a h0 n3 n1 n4 n5 fun w' a' ea ed hR => ?_
 obtain ⟨fn0, f1, f2, f3⟩ := hc.fn
 have hM2 : Mem Hy (XT (XD X cv caps N0) fun w D o ι => ∀ (t : Nat) v, a.tmps[t]? = some v → Ra w D o ι v (s.t t)) B St w0 s.o ι w' :=
  ⟨hR.below, hR.hB, hR.ob, hR.inj, hR.stB, hR.hy, ⟨hR.x.1, fun t v e => hR.tm t v (by rw [ea]; exact e)⟩, N, hR.x.2.2, fun w1 D o ι w' D' o' ι' mT mA hz hk hx => ⟨n2 _ _ _ _ _ _ _ _ mT mA hz hk hx.1, fun t v e => mA _ _ (hx.2 t v e)⟩⟩
 have hcall := hc.go _ B St w0 ι w' cv v hM2 hcv (fun j v x h1 h2 => hR.x.1.2.1 j v x h1 h2) (fun z e => hR.x.2.1 z e)
 refine ⟨hu, .inr ⟨fun e => (by cases e), .func g, cv, g, cv, rfl, by simp [invoke, callFunc, f1, f2, f3], fun _ _ => trivial, ?_⟩⟩
 have hcall2 : CallsDIn Fence.wide (nn - 1) P g cv (zdK x v) w' fun e u' w' => (∃ r, e = .returned r) ∧ settle u' = .returning ∧ ∃ ι' o', Rc o' ∧ Mem Hy (XT (XD X cv caps N0) fun w D o ι => ∀ (t : Nat) v, a.tmps[t]? = some v → Ra w D o ι v (s.t t)) B St w0 o' ι' w' := ⟨trivial, fun c cs hu _ => hcall.2 c cs hu (by simp [Fence.room, Fence.wide])⟩
 refine hcall2.mono ?_
 rintro e u' w2 ⟨⟨r, rfl⟩, hset, ι', o', hRc, hM'⟩
 have hR3 : Rel Hy X B St w0 (fun _ => True) ⟨s.n, s.t, o'⟩ ι' { tmps := a.tmps, defers := [] } w2 := ⟨hM'.below, hM'.hB, hM'.ob, hM'.inj, hM'.x.2, trivial, h.sz, hM'.stB, hM'.hy, hM'.x.1.1, N0, [], hM'.x.1.2.2, nX, DefIs.nil, List.nodup_nil, fun D hD => (by cases hD)⟩
 obtain ⟨vs, as, h1, h2, h3, hk⟩ := zcN hT hR3 _ (hk o' hRc)
 show LeavesInM Fence.wide nn P fn a.tmps _ [] (settle u') w2
 rw [hset]
 exact ⟨_, zdJ fn vs h1, _, ι', o', as, rfl, hk, hR3.mem, zej as vs h2.symm h3⟩
def zad (N : S → Prop) : Exit → S → Prop
 | .normal, s => N s
 | _, _ => False
set_option maxHeartbeats 1000000 in
theorem zko (hT : Tys.ok P tt) (hM : P.follows .mixedOrders = true) {f : FuncId} {fn : Func} {id : Nat} {ops : Array Oper} {pre y : Code} {args : List A} {o : Nat → O} {R : List A → (Nat → O) → Prop} {t : Nat} {g : FuncId} {cap : Array Operand} {tys : Array TypeId} {ty1 ty2 : TypeId} {p1 p2 : String} {af1 af2 : Array Edge}
  (hf : P.funcs[f]? = some fn) (hb : fn.body = some (.seq pre (.seq (.region id ops false) y))) (hops : ops.toList = [⟨some t, .makeFunc (.func g) #[] cap, ty1, p1, af1, none⟩, ⟨none, .defer ⟨.value (.tmp t), #[], tys⟩, ty2, p2, af2, none⟩]) (hnm : fn.name ≠ "runtime.NumGoroutine")
  (hn : args.length ≤ fn.ntmps) (ht : t < fn.ntmps) (h : cwp P Hy tt cls E0 false pre (zad fun s => s.n = fn.ntmps ∧ cwp P Hy tt cls E0 true y (zaa P Hy tt fn.results.toList g (cap.toList.map s.ev) R) (s.put (some t) (.fn g [] (cap.toList.map s.ev)))) (s0 fn.ntmps args o)) : Cm P Hy f args o R := by
 refine ⟨⟨fn, hf, hnm, by rw [hb]; simp⟩, fun X B St w0 ι w cargs hMm hsz harg => ?_⟩
 refine callsIn_wide.1 (callsIn_of_wp_marks (F := Fence.wide) (n := 0) hf hb trivial ?_)
 obtain ⟨N0, hN0, nX⟩ := hMm.xc
 have nX1 : XC (XT X fun w _ _ _ => N0 ≤ w.heap.size) N0 := fun w1 D o ι w' D' o' ι' mT mA hz hk hx => ⟨nX _ _ _ _ _ _ _ _ mT mA hz hk hx.1, Nat.le_trans hx.2 hz⟩
 have hM1 : Mem Hy (XT X fun w _ _ _ => N0 ≤ w.heap.size) B St w0 o ι w := ⟨hMm.below, hMm.hB, hMm.ob, hMm.inj, hMm.stB, hMm.hy, ⟨hMm.x, hN0⟩, N0, hN0, nX1⟩
 have h0 : Rel Hy (XT X fun w _ _ _ => N0 ≤ w.heap.size) B St w0 (fun d => d = []) (s0 fn.ntmps args o) ι { tmps := cargs ++ Array.replicate (fn.ntmps - cargs.size) undef, defers := [] } w := zek hM1 hn hsz harg rfl
 refine wpIn_seq (zbb (E := E0) (ro := none) (nn := 0) (top := false) hT hM pre (fun e => by cases e) (.inl fun _ _ _ e => e) h0 (fun e s ι a w hR hk => ?_) h)
 cases e <;> first | exact hk.elim | skip
 obtain ⟨hsn, hk⟩ := hk
 have htn : t < a.tmps.size := by rw [hR.sz, hsn]; exact ht
 have hdd : a.defers = [] := hR.dv
 have hcap := zew hR cap
 have hfn : Ra w (Sd B St s.o ι w) s.o ι (.func (.func g) #[] (cap.map a.eval)) (.fn g [] (cap.toList.map s.ev)) := by
  refine .fn g #[] (cap.map a.eval) [] (cap.toList.map s.ev) (fun _ => undef) (fun j => (cap.map a.eval).getD j undef) rfl (fun j hj => absurd hj (Nat.not_lt_zero j)) (fun j x hx => by simp at hx) hcap.1 (fun j hj => ?_) (fun j x hx => ?_)
  ·have hj2 : j < (cap.map a.eval).size := by rw [hcap.1]; exact hj
   rw [Array.getElem?_eq_getElem hj2, Array.getD_eq_getD_getElem?, Array.getElem?_eq_getElem hj2]
   rfl
  ·have hj2 : j < (cap.map a.eval).size := by rw [hcap.1]; exact (List.getElem?_eq_some_iff.1 hx).1
   have := hcap.2 j _ x (Array.getElem?_eq_getElem hj2) hx
   rwa [Array.getD_eq_getD_getElem?, Array.getElem?_eq_getElem hj2]
 have h1 := hR.pure (some t) (.fn g [] (cap.toList.map s.ev)) (.func (.func g) #[] (cap.map a.eval)) (fun _ => hfn)
 have hsz2 : ops.size = 2 := by rw [← Array.length_toList, hops]; rfl
 have hg0 : ops[0]? = some ⟨some t, .makeFunc (.func g) #[] cap, ty1, p1, af1, none⟩ := by rw [← Array.getElem?_toList, hops]; rfl
 have hg1 : ops[1]? = some ⟨none, .defer ⟨.value (.tmp t), #[], tys⟩, ty2, p2, af2, none⟩ := by rw [← Array.getElem?_toList, hops]; rfl
 refine wpIn_seq (wpIn_region ?_)
 rw [hsz2]
 show wpOpsIn Fence.wide 0 P ops _ [0, 1] a w
 rw [wpOpsIn_cons]
 unfold wpOpIn
 simp only [hg0]
 rw [if_pos (by simp [Region.wanted])]
 refine ⟨fun _ _ => trivial, ?_⟩
 have run : (Oper.semAt Fence.wide.round a.eval ⟨some t, .makeFunc (.func g) #[] cap, ty1, p1, af1, none⟩).run P w = .ok (.value (.func (.func g) #[] (cap.map a.eval))) w := by
  rw [Oper.semAt_eq _ _ _ (fun c e => by cases e)]
  simp [execOp, Instr.makeFunc, go_sem]
 rw [run]
 show wpOpsIn Fence.wide 0 P ops _ [1] (a.put (some t) (.func (.func g) #[] (cap.map a.eval))) w
 rw [wpOpsIn_cons]
 unfold wpOpIn
 simp only [hg1]
 rw [if_pos (by simp [Region.wanted])]
 refine ⟨fun _ _ => trivial, ?_⟩
 have hev : (a.put (some t) (.func (.func g) #[] (cap.map a.eval))).eval (.tmp t) = .func (.func g) #[] (cap.map a.eval) := by
  simp [Act.eval, Act.put, htn]
 have run2 : (Oper.semAt Fence.wide.round (a.put (some t) (.func (.func g) #[] (cap.map a.eval))).eval ⟨none, .defer ⟨.value (.tmp t), #[], tys⟩, ty2, p2, af2, none⟩).run P w = .ok (.defer { target := .fn (.func g) (cap.map a.eval), args := #[] }) w := by
  rw [show Fence.wide.round = none from rfl, Oper.semAt_none]
  simp only [execOp, resolve, hev]
  simp [Deferred.ofValue, go_sem]
 rw [run2]
 have hcapR : ∀ (j : Nat) v x, (cap.map a.eval)[j]? = some v → (cap.toList.map s.ev)[j]? = some x → Ra w (Sd B St s.o ι w) s.o ι v x := hcap.2
 obtain ⟨N, L, n1, n2, n3, n4, n5⟩ := h1.xd
 have nXD : XC (XD X (cap.map a.eval) (cap.toList.map s.ev) N0) N0 := fun w1 D o ι w' D' o' ι' mT mA hz hk hx => ⟨nX _ _ _ _ _ _ _ _ mT mA hz hk hx.1, fun j v x e1 e2 => mA _ _ (hx.2.1 j v x e1 e2), Nat.le_trans hx.2.2 hz⟩
 have h2 : Rel Hy (XD X (cap.map a.eval) (cap.toList.map s.ev) N0) B St w0 (DpC { target := .fn (.func g) (cap.map a.eval), args := #[] }) (s.put (some t) (.fn g [] (cap.toList.map s.ev))) ι
   { (a.put (some t) (.func (.func g) #[] (cap.map a.eval))) with defers := { target := .fn (.func g) (cap.map a.eval), args := #[] } :: (a.put (some t) (.func (.func g) #[] (cap.map a.eval))).defers } w :=
  ⟨h1.below, h1.hB, h1.ob, h1.inj, h1.tm, ⟨[], AllM.nil, by rw [show (a.put (some t) (.func (.func g) #[] (cap.map a.eval))).defers = a.defers from rfl, hdd]; rfl⟩, h1.sz, h1.stB, h1.hy, ⟨hR.x.1, hcapR, hR.x.2⟩, N0, [], hR.x.2, nXD,
   ⟨[{ target := .fn (.func g) (cap.map a.eval), args := #[] }], by rw [show (a.put (some t) (.func (.func g) #[] (cap.map a.eval))).defers = a.defers from rfl, hdd]; rfl, fun d hd D => by rw [List.mem_singleton.1 hd]; simp⟩, List.nodup_nil, fun D hD => (by cases hD)⟩
 refine zbb (E := E0) (ro := none) (nn := 0) (top := true) hT hM y (fun _ => ⟨rfl, fun D d ⟨M, hM, e⟩ => ⟨mark D :: M, hM.cons, by rw [e]; rfl⟩⟩) (.inl fun _ _ _ e => e) h2 (fun e s2 ι2 a2 w2 hR2 hk2 => ?_) hk
 cases e with
 | normal => exact zfj hT (x := none) (v := undef) nX hcap.1 hR2 (fun z e => by cases e) hk2
 | ret => exact zfj hT (x := none) (v := undef) nX hcap.1 hR2 (fun z e => by cases e) hk2
 | panic ch => exact fun v hv => zfj hT (x := some (s2.t s2.n)) (v := v) nX hcap.1 hR2 (fun z e => by cases e; exact hv) hk2
 | _ => exact hk2.elim
end
end Go.Proofs.YtbhoeanfnbkenaaGreatDoor
namespace Go.Proofs.YtbhoeanfnbkenaaGreatDoor
open Go.RowKit
def zbH : List (Nat × A) → Nat → A → A
 | [], _, d => d
 | p :: l, j, d => if j = p.1 then p.2 else zbH l j d
def nf (n : Nat) (F : Nat → A) (G : Nat → O) (ts : List (Nat × A)) (os : List (Nat × O)) : S := ⟨n, fun j => zbH ts j (F j), fun j => zae os j (G j)⟩
def zfk (s : S) : List (Nat × A) → Prop
 | [] => True
 | p :: l => s.t p.1 = p.2 ∧ zfk s l
def zfl (s : S) : List (Nat × O) → Prop
 | [] => True
 | p :: l => s.o p.1 = p.2 ∧ zfl s l
theorem zhf {s : S} : ∀ {l : List (Nat × A)}, zfk s l → ∀ j, zbH l j (s.t j) = s.t j
 | [], _, _ => rfl
 | p :: l, h, j => by
  unfold zbH
  split
  ·rename_i e
   rw [e, h.1]
  ·exact zhf h.2 j
theorem zhg {s : S} : ∀ {l : List (Nat × O)}, zfl s l → ∀ j, zae l j (s.o j) = s.o j
 | [], _, _ => rfl
 | p :: l, h, j => by
  unfold zae
  split
  ·rename_i e
   rw [e, h.1]
  ·exact zhg h.2 j
theorem zp {n : Nat} {s : S} {ts : List (Nat × A)} {os : List (Nat × O)} (hn : s.n = n) (ht : zfk s ts) (ho : zfl s os) : s = nf n s.t s.o ts os := by
 subst hn
 exact S.ext3 rfl (fun j => (zhf ht j).symm) (fun j => (zhg ho j).symm)
section
variable {P : Program} {Hy : World → Prop} {tt : Tys} {cls : Nat → Nat} {s s' : S} {Q : Exit → S → Prop} {top : Bool} {E : Env}
def z1 (N : S → Prop) (Q : Exit → S → Prop) : Exit → S → Prop := fun e s' => match e with
 | .normal => ∃ s1, StlS s' s1 ∧ N s1
 | e => Q e s'
def z6 (id : Nat) (Q : Exit → S → Prop) : Exit → S → Prop := fun e s' => match e with
 | .exit id' => if id' = id then Q .normal s' else Q (.exit id') s'
 | e => Q e s'
def lpQ (I : Nat → S → Prop) (m : Nat) (Q : Exit → S → Prop) : Exit → S → Prop := fun e s' => match e with
 | .normal => ∃ m', m' < m ∧ I m' s'
 | e => Q e s'
theorem zg {x y : Code} (h : cwp P Hy tt cls E top x (z1 (cwp P Hy tt cls E top y Q) Q) s) : cwp P Hy tt cls E top (.seq x y) Q s := h
theorem zj {id : Nat} {x : Code} (h : cwp P Hy tt cls E top x (z6 id Q) s) : cwp P Hy tt cls E top (.block id x) Q s := h
theorem zW {x : Code} (I : Nat → S → Prop) (n : Nat) (h0 : I n s) (h : ∀ m s, I m s → cwp P Hy tt cls E top x (lpQ I m Q) s) : cwp P Hy tt cls E top (.loop x) Q s := ⟨I, n, h0, h⟩
theorem zh {c : Operand} {x y : Code} (q : Bool) (hc : s.ev c = .t (.b q)) (h1 : q = true → cwp P Hy tt cls E top x Q s) (h2 : q = false → cwp P Hy tt cls E top y Q s) : cwp P Hy tt cls E top (.cond c x y) Q s := by
 unfold cwp
 rw [hc]
 exact ⟨h1, h2⟩
theorem zi (h : Q .normal s) : cwp P Hy tt cls E top .skip Q s := h
theorem zt {id : Nat} (h : Q (.exit id) s) : cwp P Hy tt cls E top (.exit id) Q s := h
theorem zk (h : Q .ret s) : cwp P Hy tt cls E top .ret Q s := h
theorem zf {id : Nat} {ops : Array Oper} {l : List Oper} (hl : ops.toList = l) (h : ∀ (K : S → Prop) (E' : Env), (∀ s', Q .normal s' → K s') → (E'.l = E.l ∧ E'.y = E.y ∧ ∀ s', Q (.panic []) s' → E'.p s') → zU P Hy tt cls E' l l s K) : cwp P Hy tt cls E top (.region id ops false) Q s := by
 subst hl
 exact h _ ⟨E.l, E.y, Q (.panic [])⟩ (fun _ h => h) ⟨rfl, rfl, fun _ h => h⟩
theorem zG {id : Nat} {ops : Array Oper} {l : List Oper} (hl : ops.toList = l) (hs : zdV l = true) (h : ∀ (K : S → Prop) (E' : Env), (∀ s', Q .normal s' → K s') → (E'.l = E.l ∧ E'.y = E.y ∧ ∀ s', Q (.panic []) s' → E'.p s') → zY P Hy tt cls E' l l 0 s [] K) : cwp P Hy tt cls E top (.region id ops true) Q s := by
 subst hl
 exact ⟨hs, h _ ⟨E.l, E.y, Q (.panic [])⟩ (fun _ h => h) ⟨rfl, rfl, fun _ h => h⟩⟩
variable {ops os : List Oper} {o : Oper} {K : S → Prop}
theorem zhh (h : ∀ K' : S → Prop, (∀ s', zU P Hy tt cls E ops os s' K → K' s') → opK P Hy tt cls ops o s K') : zU P Hy tt cls E ops (o :: os) s K := .inl (h _ (fun _ h => h))
theorem zaj (h : ∀ K' : S → Prop, (∀ s', zU P Hy tt cls E ops os s' K → K' s') → opM P Hy ops o s K') : zU P Hy tt cls E ops (o :: os) s K := .inr (.inl (h _ (fun _ h => h)))
theorem zaI (h : ∀ K' : S → Prop, (∀ s', zU P Hy tt cls E ops os s' K → K' s') → opF P Hy ops o s K') : zU P Hy tt cls E ops (o :: os) s K := .inr (.inr (.inl (h _ (fun _ h => h))))
theorem zfm {o : Oper} {os ops : List Oper} {K : S → Prop} (h : ∀ K' : S → Prop, (∀ s', zU P Hy tt cls E ops os s' K → K' s') → opE tt o s K') : zU P Hy tt cls E ops (o :: os) s K := .inr (.inr (.inr (.inl (h _ (fun _ h => h)))))
theorem zd (h : K s) : zU P Hy tt cls E ops [] s K := h
theorem zhi {i : Nat} {fps : List (List Nat × List Nat)} (hok : zcW ((bfs ops).getD i 0) (rdO o s) (wrO cls o s) fps = true) (h : ∀ K' : S → Prop, (∀ s', zY P Hy tt cls E ops os (i + 1) s' (fps ++ [(rdO o s, wrO cls o s)]) K → K' s') → opK P Hy tt cls ops o s K') : zY P Hy tt cls E ops (o :: os) i s fps K := .inl ⟨_, _, hok, .inl ⟨rfl, rfl, h _ (fun _ h => h)⟩⟩
def op2 (P : Program) (Hy : World → Prop) (tt : Tys) (cls : Nat → Nat) (dst : Option Nat) (op : Op) (s : S) (K : S → Prop) : Prop := match isE op with
 | true => Ek P Hy tt cls dst op s K
 | false => Pk tt op s fun y => K (s.put dst y)
def zdL (x : A) (want : Bool) (k1 k2 : Prop) : Prop := match x with
 | .t (.b q) => match q == want with
  | true => k1
  | false => k2
 | .tup [] => k2
 | _ => False
theorem zhj {t : Nat} {dst : Option Nat} {op : Op} {type : TypeId} {pos : String} {after : Array Edge} {g : Nat} {want : Bool} {K' : S → Prop} (hg : (ops[g]?).bind (·.dst) = some t) (h : t < s.n ∧ zdL (s.t t) want (op2 P Hy tt cls dst op s K') (K' (s.put dst (.tup [])))) : opK P Hy tt cls ops ⟨dst, op, type, pos, after, some (g, want)⟩ s K' := by
 unfold opK
 simp only [hg]
 refine ⟨h.1, ?_⟩
 have h := h.2
 unfold zdL at h
 split at h
 ·rename_i q e
  rw [e]
  simp only
  cases q <;> cases want <;> first | exact ⟨fun _ => h, fun e => (by cases e)⟩ | exact ⟨fun e => (by cases e), fun _ => h⟩
 ·rename_i e
  rw [e]
  exact h
 ·exact h.elim
theorem za {dst : Option Nat} {op : Op} {type : TypeId} {pos : String} {after : Array Edge} (h : ∀ K' : S → Prop, (∀ s', zU P Hy tt cls E ops os s' K → K' s') → op2 P Hy tt cls dst op s K') : zU P Hy tt cls E ops (⟨dst, op, type, pos, after, none⟩ :: os) s K := zhh (fun K' hK' => h K' hK')
theorem zo {t : Nat} {dst : Option Nat} {op : Op} {type : TypeId} {pos : String} {after : Array Edge} {g : Nat} {want : Bool} (hg : (ops[g]?).bind (·.dst) = some t) (h : ∀ K' : S → Prop, (∀ s', zU P Hy tt cls E ops os s' K → K' s') → t < s.n ∧ zdL (s.t t) want (op2 P Hy tt cls dst op s K') (K' (s.put dst (.tup [])))) :
  zU P Hy tt cls E ops (⟨dst, op, type, pos, after, some (g, want)⟩ :: os) s K := zhh (fun K' hK' => zhj hg (h K' hK'))
theorem zr {i : Nat} {fps : List (List Nat × List Nat)} {dst : Option Nat} {op : Op} {type : TypeId} {pos : String} {after : Array Edge} (hok : zcW ((bfs ops).getD i 0) (rdO ⟨dst, op, type, pos, after, none⟩ s) (wrO cls ⟨dst, op, type, pos, after, none⟩ s) fps = true)
  (h : ∀ K' : S → Prop, (∀ s', zY P Hy tt cls E ops os (i + 1) s' (fps ++ [(rdO ⟨dst, op, type, pos, after, none⟩ s, wrO cls ⟨dst, op, type, pos, after, none⟩ s)]) K → K' s') → op2 P Hy tt cls dst op s K') : zY P Hy tt cls E ops (⟨dst, op, type, pos, after, none⟩ :: os) i s fps K := zhi hok (fun K' hK' => h K' hK')
theorem zK {i t : Nat} {fps : List (List Nat × List Nat)} {dst : Option Nat} {op : Op} {type : TypeId} {pos : String} {after : Array Edge} {g : Nat} {want : Bool} (hok : zcW ((bfs ops).getD i 0) (rdO ⟨dst, op, type, pos, after, some (g, want)⟩ s) (wrO cls ⟨dst, op, type, pos, after, some (g, want)⟩ s) fps = true)
  (hg : (ops[g]?).bind (·.dst) = some t)
  (h : ∀ K' : S → Prop, (∀ s', zY P Hy tt cls E ops os (i + 1) s' (fps ++ [(rdO ⟨dst, op, type, pos, after, some (g, want)⟩ s, wrO cls ⟨dst, op, type, pos, after, some (g, want)⟩ s)]) K → K' s') → t < s.n ∧ zdL (s.t t) want (op2 P Hy tt cls dst op s K') (K' (s.put dst (.tup [])))) :
  zY P Hy tt cls E ops (⟨dst, op, type, pos, after, some (g, want)⟩ :: os) i s fps K := zhi hok (fun K' hK' => zhj hg (h K' hK'))
theorem zbm {i : Nat} {fps : List (List Nat × List Nat)} {o : Oper} {os ops : List Oper} {R W : List Nat} {K : S → Prop} (hok : zcW ((bfs ops).getD i 0) R W fps = true) (h : ∀ K' : S → Prop, (∀ s', zY P Hy tt cls E ops os (i + 1) s' (fps ++ [(R, W)]) K → K' s') → opD P Hy ops o s R W K') : zY P Hy tt cls E ops (o :: os) i s fps K := .inl ⟨_, _, hok, .inr (.inr (h _ (fun _ h => h)))⟩
theorem zkp (c : Nat → Nat) {i : Nat} {fps : List (List Nat × List Nat)} {dst : Option Nat} {op : Op} {type : TypeId} {pos : String} {after : Array Edge} (hok : zcW ((bfs ops).getD i 0) (rdO ⟨dst, op, type, pos, after, none⟩ s) (wrO c ⟨dst, op, type, pos, after, none⟩ s) fps = true)
  (h : ∀ K' : S → Prop, (∀ s', zY P Hy tt cls E ops os (i + 1) s' (fps ++ [(rdO ⟨dst, op, type, pos, after, none⟩ s, wrO c ⟨dst, op, type, pos, after, none⟩ s)]) K → K' s') → op2 P Hy tt c dst op s K') : zY P Hy tt cls E ops (⟨dst, op, type, pos, after, none⟩ :: os) i s fps K := .inl ⟨_, _, hok, .inr (.inl ⟨c, rfl, rfl, h _ (fun _ h => h)⟩)⟩
theorem zkq {E' : Env} {l : Nat} {y : YC} {q : Prop} (h : E'.l = l ∧ E'.y = y ∧ q) : E' = ⟨l, y, E'.p⟩ := by
 obtain ⟨rfl, rfl, _⟩ := h
 rfl
theorem zhk {E' : Env} {l : Nat} {y : YC} {q : Prop} (hE : E'.l = l ∧ E'.y = y ∧ q) (h : ∀ K' : S → Prop, (∀ s', zU P Hy tt cls E' ops os s' K → K' s') → opY ops ⟨l, y, E'.p⟩ o s K') : zU P Hy tt cls E' ops (o :: os) s K := .inr (.inr (.inr (.inr (.inr (.inl (by rw [zkq hE] at h ⊢; exact h _ (fun _ h => h)))))))
theorem zbR (h : opP ops E o s) : zU P Hy tt cls E ops (o :: os) s K := .inr (.inr (.inr (.inr (.inr (.inr (.inl h))))))
theorem zbS (h : ∀ K' : S → Prop, (∀ s', zU P Hy tt cls E ops os s' K → K' s') → opC P Hy ops E o s K') : zU P Hy tt cls E ops (o :: os) s K := .inr (.inr (.inr (.inr (.inr (.inr (.inr (h _ (fun _ h => h))))))))
theorem zM {N : S → Prop} {ch : List PanicEntry} (h : Q (.panic ch) s) : z1 N Q (.panic ch) s := h
theorem zN {id : Nat} {ch : List PanicEntry} (h : Q (.panic ch) s) : z6 id Q (.panic ch) s := h
theorem zO {I : Nat → S → Prop} {m : Nat} {ch : List PanicEntry} (h : Q (.panic ch) s) : lpQ I m Q (.panic ch) s := h
theorem zbj {rs : List ResultVar} {R : List A → (Nat → O) → Prop} {Rp : A → (Nat → O) → Prop} {ch : List PanicEntry} (h : Rp (s.t s.n) s.o) : zab tt rs R Rp (.panic ch) s := h
theorem zcO {rs : List ResultVar} {R : List A → (Nat → O) → Prop} {Rp : A → (Nat → O) → Prop} (h : zaB tt s rs fun as => R as s.o) : zab tt rs R Rp .normal s := h
theorem zH {i : Nat} {fps : List (List Nat × List Nat)} (h : K s) : zY P Hy tt cls E ops [] i s fps K := h
theorem zb {N : S → Prop} (h : N s) : z1 N Q .normal s := ⟨s, StlS.refl s, h⟩
theorem zkr {N : S → Prop} {s' : S} (hs : StlS s s') (h : N s') : z1 N Q .normal s := ⟨s', hs, h⟩
theorem zq {id : Nat} (h : Q .normal s) : z6 id Q .normal s := h
theorem zu {N : S → Prop} {id : Nat} (h : Q (.exit id) s) : z1 N Q (.exit id) s := h
theorem zy {N : S → Prop} (h : Q .ret s) : z1 N Q .ret s := h
theorem zJ {id : Nat} (h : Q .ret s) : z6 id Q .ret s := h
theorem zw {id : Nat} (h : Q .normal s) : z6 id Q (.exit id) s := by
 show if id = id then Q .normal s else Q (.exit id) s
 rw [if_pos rfl]
 exact h
theorem zR {id id' : Nat} (hne : Nat.beq id' id = false) (h : Q (.exit id') s) : z6 id Q (.exit id') s := by
 show if id' = id then Q .normal s else Q (.exit id') s
 rw [if_neg (fun e => by subst e; simp at hne)]
 exact h
theorem zx {I : Nat → S → Prop} {m id : Nat} (h : Q (.exit id) s) : lpQ I m Q (.exit id) s := h
theorem zn {l : List ResultVar} {t : Nat} {K : List A → Prop} (h : zaB tt s l fun as => K (s.ev (.tmp t) :: as)) : zaB tt s (.tmp t :: l) K := h
theorem zS {l : List ResultVar} {x : Nat} {t : TypeId} {K : List A → Prop} (h : Pk tt (.load t (.tmp x)) s fun x => zaB tt s l fun as => K (x :: as)) : zaB tt s (.cell x t :: l) K := h
theorem zP {K : List A → Prop} (h : K []) : zaB tt s [] K := h
def asQ (N : S → Prop) : Exit → S → Prop := fun e s1 => match e with
 | .normal => N s1
 | _ => False
def bdQ (Inv : Nat → (Nat → O) → Prop) (i : Nat) : Exit → S → Prop := fun e s2 => match e with
 | .normal => ∃ o3, Stl s2.o o3 ∧ Inv (i + 1) o3
 | _ => False
theorem zhl {N : S → Prop} (h : N s) : asQ N .normal s := h
def bdY (Rb : (Nat → O) → Prop) : Exit → S → Prop := fun e s2 => match e with
 | .normal => ∃ o3, Stl s2.o o3 ∧ Rb o3
 | _ => False
theorem zel {Rb : (Nat → O) → Prop} (h : Rb s.o) : bdY Rb .normal s := ⟨s.o, Stl.refl, h⟩
theorem zhm {g : Operand} {ps : Array Tmp} {x y : Code} {gf : FuncId} {lb : List A} (Y : YC) (R : List A → (Nat → O) → Prop) (hg : s.ev g = .fn gf [] lb) (it : ∀ l, CmY P Hy gf l Y (.t (.yl l) :: lb) s.o R)
  (hr : ∀ args o1 Rb, Y args o1 Rb → args.length = ps.size ∧ cwp P Hy tt cls E0 false x (asQ (cwp P Hy tt cls E0 false y (bdY Rb))) (zcM s o1 ps.toList args)) (he : ∀ rs o', R rs o' → Q .normal ⟨s.n, s.t, o'⟩) :
  cwp P Hy tt cls E true (.rangeFunc g ps x y) Q s := ⟨rfl, .inr ⟨gf, lb, Y, R, hg, it, hr, he⟩⟩
theorem zm {rs : List ResultVar} {R : List A → (Nat → O) → Prop} (h : zaB tt s rs fun as => R as s.o) : z8 tt rs R .ret s := h
theorem zQ {rs : List ResultVar} {R : List A → (Nat → O) → Prop} (h : zaB tt s rs fun as => R as s.o) : z8 tt rs R .normal s := h
theorem zs {I : Nat → S → Prop} {m : Nat} (h : ∃ k, k < m ∧ I k s) : lpQ I m Q .normal s := h
theorem zL {I : Nat → S → Prop} {m : Nat} (h : Q .ret s) : lpQ I m Q .ret s := h
theorem zfn (n : Nat) (F : Nat → A) (G : Nat → O) (ts : List (Nat × A)) (os : List (Nat × O)) (d : Nat) (x : A) : (nf n F G ts os).put (some d) x = nf n F G ((d, x) :: ts) os := rfl
theorem zks (n : Nat) (F : Nat → A) (G : Nat → O) (ts : List (Nat × A)) (os : List (Nat × O)) (d : Nat) (x : O) : (nf n F G ts os).ob d x = nf n F G ts ((d, x) :: os) := rfl
theorem zkt (n : Nat) (F : Nat → A) (G : Nat → O) (ts : List (Nat × A)) (os : List (Nat × O)) (x : A) : (nf n F G ts os).put none x = nf n F G ts os := rfl
theorem zku (n : Nat) (F : Nat → A) (G : Nat → O) (ts : List (Nat × A)) (os : List (Nat × O)) (j : Nat) : (nf n F G ts os).t j = zbH ts j (F j) := rfl
theorem zkv (n : Nat) (F : Nat → A) (G : Nat → O) (ts : List (Nat × A)) (os : List (Nat × O)) (j : Nat) : (nf n F G ts os).o j = zae os j (G j) := rfl
theorem zkw (n : Nat) (F : Nat → A) (G : Nat → O) (ts : List (Nat × A)) (os : List (Nat × O)) : (nf n F G ts os).n = n := rfl
theorem zkx (t : Nat) : s.ev (.tmp t) = if t < s.n then s.t t else .junk := rfl
theorem zky (s : S) (f : FuncId) : s.ev (.func f) = .fn f [] [] := rfl
theorem zkz (v : Value) : s.ev (.const v) = zd4 v := rfl
theorem zkA {α : Type} (x : α) (K : α → Prop) : zF (some x) K = K x := rfl
theorem zkB (p : Nat × A) (l : List (Nat × A)) (j : Nat) (d : A) : zbH (p :: l) j d = if j = p.1 then p.2 else zbH l j d := rfl
theorem zkC (j : Nat) (d : A) : zbH [] j d = d := rfl
theorem zhn (p : Nat × O) (l : List (Nat × O)) (j : Nat) (d : O) : zae (p :: l) j d = if j = p.1 then p.2 else zae l j d := rfl
theorem zkD (j : Nat) (d : O) : zae [] j d = d := rfl
theorem zaY {i : Nat} {d : O} : ∀ {os : List (Nat × O)}, (∀ p ∈ os.map (·.1), p ≠ i) → zae os i d = d
 | [], _ => rfl
 | p :: os, h => by
  rw [zhn, if_neg (fun e => h p.1 (by simp) e.symm)]
  exact zaY (fun q hq => h q (by simp only [List.map_cons, List.mem_cons]; exact .inr hq))
theorem zkE {n : Nat} {F : Nat → A} {G : Nat → O} {ts : List (Nat × A)} {os up : List (Nat × O)} {d : Nat} {y : A} : zdg (nf n F G ts os) up (some d) y = nf n F G ((d, y) :: ts) (up ++ os) := by
 unfold zdg upd
 rw [← zex up (nf n F G ts os)]
 have e : (fun j => zae up j ((nf n F G ts os).o j)) = fun j => zae (up ++ os) j (G j) := by
  funext j
  induction up with
  | nil => rfl
  | cons p up ih => rw [List.cons_append]; unfold zae; rw [ih]
 rw [e]
 rfl
theorem zkF {n : Nat} {F : Nat → A} {G : Nat → O} {ts : List (Nat × A)} {os up : List (Nat × O)} {y : A} : zdg (nf n F G ts os) up none y = nf n F G ts (up ++ os) := by
 unfold zdg upd
 rw [← zex up (nf n F G ts os)]
 have e : (fun j => zae up j ((nf n F G ts os).o j)) = fun j => zae (up ++ os) j (G j) := by
  funext j
  induction up with
  | nil => rfl
  | cons p up ih => rw [List.cons_append]; unfold zae; rw [ih]
 rw [e]
 rfl
theorem zkG {n m : Nat} {F : Nat → A} {G : Nat → O} {ts : List (Nat × A)} {os : List (Nat × O)} (o' : Nat → O) : (⟨m, (nf n F G ts os).t, o'⟩ : S) = nf m F o' ts [] := rfl
theorem zkH {n m : Nat} {F F' : Nat → A} {G : Nat → O} {ts ts' : List (Nat × A)} {os : List (Nat × O)} : nf n F (nf m F' G ts os).o ts' [] = nf n F G ts' os := rfl
theorem zkI {n : Nat} {F : Nat → A} {G : Nat → O} {ts : List (Nat × A)} : (nf n F G ts []).o = G := rfl
theorem zkJ {n : Nat} {F : Nat → A} {G o' : Nat → O} {ts : List (Nat × A)} {os : List (Nat × O)} (x : A) : (nf n F G ts os).pan x o' = nf n F o' ((n, x) :: ts) [] := rfl
theorem zT {R : (Nat → O) → Prop} {s : S} (h : R s.o) : zac R .normal s := h
theorem zX {R : (Nat → O) → Prop} {s : S} (h : R s.o) : zac R .ret s := h
theorem zV {N : S → Prop} {s : S} (h : N s) : zad N .normal s := h
theorem zkK {rs : List ResultVar} {g : FuncId} {caps : List A} {R : List A → (Nat → O) → Prop} {Rc : (Nat → O) → Prop} {s : S} (hc : Cr P Hy g caps s.o none Rc) (h : ∀ o', Rc o' → zaB tt ⟨s.n, s.t, o'⟩ rs fun as => R as o') : zaa P Hy tt rs g caps R .ret s := ⟨_, hc, h⟩
theorem zc9 {rs : List ResultVar} {g : FuncId} {caps : List A} {R : List A → (Nat → O) → Prop} {Rc : (Nat → O) → Prop} {s : S} (hc : Cr P Hy g caps s.o (some (s.t s.n)) Rc) (h : ∀ o', Rc o' → zaB tt ⟨s.n, s.t, o'⟩ rs fun as => R as o') : zaa P Hy tt rs g caps R (.panic []) s := ⟨_, hc, h⟩
theorem zkL {n : Nat} {F : Nat → A} {G o' : Nat → O} {ts : List (Nat × A)} {os : List (Nat × O)} : (⟨(nf n F G ts os).n, (nf n F G ts os).t, o'⟩ : S) = nf n F o' ts [] := rfl
theorem zho {n : Nat} {F : Nat → A} {G : Nat → O} {sl : List (Nat × A)} : ∀ (up : Ups) (ob : List (Nat × O)), (nf n F G sl ob).frz up = nf n F G sl (up.reverse ++ ob)
 | [], _ => rfl
 | p :: up, ob => by
  rw [List.reverse_cons, List.append_assoc]
  exact zho up (p :: ob)
theorem zby {N : S → Prop} {n : Nat} {F : Nat → A} {G : Nat → O} {sl : List (Nat × A)} {ob : List (Nat × O)} (j : Nat) {t0 : T} {up0 : Ups} (hj : j < n) (hf : frz (nf n F G sl ob).o ((nf n F G sl ob).t j) fun t up => t = t0 ∧ up = up0)
  (h : N (nf n F G ((j, .t t0) :: sl) (up0.reverse ++ ob))) : z1 N Q .normal (nf n F G sl ob) := by
 refine zkr (s' := ((nf n F G sl ob).frz up0).put (some j) (.t t0)) (StlS.frz hj hf) ?_
 rw [zho]
 exact h
theorem zC (n : Nat) (args : List A) (o : Nat → O) : s0 n args o = nf n (fun _ => .junk) o ((args.zipIdx).map fun p => (p.2, p.1)) [] := by
 have key : ∀ (l : List A) (k j : Nat), zbH ((l.zipIdx k).map fun p => (p.2, p.1)) j .junk = (if k ≤ j then match l[j - k]? with
  | some t => t
  | none => .junk else .junk) := by
  intro l
  induction l with
  | nil => intro k j; split <;> rfl
  | cons x l ih =>
   intro k j
   rw [List.zipIdx_cons, List.map_cons]
   unfold zbH
   dsimp only
   by_cases h : j = k
   ·rw [if_pos h, if_pos (by omega), h, Nat.sub_self]
    rfl
   ·rw [if_neg h, ih]
    by_cases h2 : k + 1 ≤ j
    ·rw [if_pos h2, if_pos (by omega), show j - k = (j - (k + 1)) + 1 by omega, List.getElem?_cons_succ]
    ·rw [if_neg h2, if_neg (by omega)]
 refine S.ext3 rfl (fun j => ?_) (fun id => rfl)
 have := key args 0 j
 rw [if_pos (Nat.zero_le j), Nat.sub_zero] at this
 exact this.symm
end
attribute [go_sem] eqF agA tF zcF Option.bind_some Option.bind_none Option.map_some Option.map_none Bool.and_true Bool.true_and zcM opY opP opC zcn opE zdU zbZ zdO kyA kyI kyG zaS zA opD zkE zkF zc8 List.zip_cons_cons List.zip_nil_left List.zip_nil_right
attribute [go_sem] Nat.le_refl zky zkJ zkL opK op1 isE zfU zc2 agT toT TK.conc Option.map_some Pk biK zb7 inR zkx zkz zd4 zaN zfn zks zkt zku zkv zkw zkB zkC zhn zkD zkA zc1 zc0 z7 zas
attribute [go_sem] zaB o0 opM opF gOk List.getElem?_cons_zero zbe zbc frz frz1 frzC frz0 frzC0 frzE zaD isA zcb A.plain A.leaf T.leaf Ek zdN apK zdM true_or or_true false_or or_false zbY zcu T.flat S.frz upd zda zcP zap List.all_cons List.all_nil Bool.and_true Bool.true_and Bool.and_self Bool.or_false Bool.false_or Bool.or_true Bool.true_or Bool.or_self Bool.and_false Bool.false_and List.not_mem_nil not_false_eq_true List.foldl_cons List.foldl_nil List.nil_append List.cons_append List.append_nil eq_self_iff_true
@[go_sem] theorem tk1 {α : Type} (a0 : α) (l : List α) : (a0 :: l).take 1 = [a0] := rfl
@[go_sem] theorem dp1 {α : Type} (a0 : α) (l : List α) : (a0 :: l).drop 1 = l := rfl
@[go_sem] theorem tk2 {α : Type} (a0 a1 : α) (l : List α) : (a0 :: a1 :: l).take 2 = [a0, a1] := rfl
@[go_sem] theorem dp2 {α : Type} (a0 a1 : α) (l : List α) : (a0 :: a1 :: l).drop 2 = l := rfl
@[go_sem] theorem tk3 {α : Type} (a0 a1 a2 : α) (l : List α) : (a0 :: a1 :: a2 :: l).take 3 = [a0, a1, a2] := rfl
@[go_sem] theorem dp3 {α : Type} (a0 a1 a2 : α) (l : List α) : (a0 :: a1 :: a2 :: l).drop 3 = l := rfl
@[go_sem] theorem tk4 {α : Type} (a0 a1 a2 a3 : α) (l : List α) : (a0 :: a1 :: a2 :: a3 :: l).take 4 = [a0, a1, a2, a3] := rfl
@[go_sem] theorem dp4 {α : Type} (a0 a1 a2 a3 : α) (l : List α) : (a0 :: a1 :: a2 :: a3 :: l).drop 4 = l := rfl
@[go_sem] theorem tk5 {α : Type} (a0 a1 a2 a3 a4 : α) (l : List α) : (a0 :: a1 :: a2 :: a3 :: a4 :: l).take 5 = [a0, a1, a2, a3, a4] := rfl
@[go_sem] theorem dp5 {α : Type} (a0 a1 a2 a3 a4 : α) (l : List α) : (a0 :: a1 :: a2 :: a3 :: a4 :: l).drop 5 = l := rfl
@[go_sem] theorem tk6 {α : Type} (a0 a1 a2 a3 a4 a5 : α) (l : List α) : (a0 :: a1 :: a2 :: a3 :: a4 :: a5 :: l).take 6 = [a0, a1, a2, a3, a4, a5] := rfl
@[go_sem] theorem dp6 {α : Type} (a0 a1 a2 a3 a4 a5 : α) (l : List α) : (a0 :: a1 :: a2 :: a3 :: a4 :: a5 :: l).drop 6 = l := rfl
@[go_sem] theorem tk7 {α : Type} (a0 a1 a2 a3 a4 a5 a6 : α) (l : List α) : (a0 :: a1 :: a2 :: a3 :: a4 :: a5 :: a6 :: l).take 7 = [a0, a1, a2, a3, a4, a5, a6] := rfl
@[go_sem] theorem dp7 {α : Type} (a0 a1 a2 a3 a4 a5 a6 : α) (l : List α) : (a0 :: a1 :: a2 :: a3 :: a4 :: a5 :: a6 :: l).drop 7 = l := rfl
@[go_sem] theorem tk8 {α : Type} (a0 a1 a2 a3 a4 a5 a6 a7 : α) (l : List α) : (a0 :: a1 :: a2 :: a3 :: a4 :: a5 :: a6 :: a7 :: l).take 8 = [a0, a1, a2, a3, a4, a5, a6, a7] := rfl
@[go_sem] theorem dp8 {α : Type} (a0 a1 a2 a3 a4 a5 a6 a7 : α) (l : List α) : (a0 :: a1 :: a2 :: a3 :: a4 :: a5 :: a6 :: a7 :: l).drop 8 = l := rfl
@[go_sem] theorem tk9 {α : Type} (a0 a1 a2 a3 a4 a5 a6 a7 a8 : α) (l : List α) : (a0 :: a1 :: a2 :: a3 :: a4 :: a5 :: a6 :: a7 :: a8 :: l).take 9 = [a0, a1, a2, a3, a4, a5, a6, a7, a8] := rfl
@[go_sem] theorem dp9 {α : Type} (a0 a1 a2 a3 a4 a5 a6 a7 a8 : α) (l : List α) : (a0 :: a1 :: a2 :: a3 :: a4 :: a5 :: a6 :: a7 :: a8 :: l).drop 9 = l := rfl
@[go_sem] theorem zno {α : Type} (a0 a1 a2 a3 a4 a5 a6 a7 a8 a9 : α) (l : List α) : (a0 :: a1 :: a2 :: a3 :: a4 :: a5 :: a6 :: a7 :: a8 :: a9 :: l).take 10 = [a0, a1, a2, a3, a4, a5, a6, a7, a8, a9] := rfl
@[go_sem] theorem znp {α : Type} (a0 a1 a2 a3 a4 a5 a6 a7 a8 a9 : α) (l : List α) : (a0 :: a1 :: a2 :: a3 :: a4 :: a5 :: a6 :: a7 :: a8 :: a9 :: l).drop 10 = l := rfl
attribute [go_sem] slB List.length_replicate Int.toNat_zero Int.sub_zero op2 zdL List.range_zero beq_self_eq_true id_eq List.take_succ_cons List.take_zero List.take_nil zkG zkH zkI Option.bind_some decide_true decide_false true_implies false_implies if_true if_false List.map_cons List.map_nil List.toList_toArray List.length_map List.length_cons List.length_nil List.getElem?_cons_zero List.getElem?_cons_succ List.getElem?_map Option.map_some Int.toNat_natCast true_and and_true List.drop_succ_cons List.drop_zero Bool.not_true Bool.not_false
end Go.Proofs.YtbhoeanfnbkenaaGreatDoor
