import Derived.Test.YtbhoeanfnbkenaaGreatDoorEng7
import Derived.ChangeMaps5
import Derived.OrdersIn
import Derived.RangeFuncCalls
namespace Go.Proofs.YtbhoeanfnbkenaaGreatDoor
open Go.RowKit
open Go.ChangeMaps (setBlock heap_setBlock_same heap_setBlock_other)
theorem zgP {k : IntKind} : ∀ {l m : List Int}, l.map (Value.int k) = m.map (Value.int k) → l = m
 | [], [], _ => rfl
 | [], _ :: _, h => by cases h
 | _ :: _, [], h => by cases h
 | x :: l, y :: m, h => by
  simp only [List.map_cons, List.cons.injEq, Value.int.injEq, true_and] at h
  rw [h.1, zgP h.2]
theorem zgQ {α : Type} : ∀ {l : List α} {i j : Nat} {x : α}, l.Nodup → l[i]? = some x → l[j]? = some x → i = j
 | y :: l, 0, 0, _, _, _, _ => rfl
 | y :: l, 0, j + 1, x, hn, h1, h2 => by
  cases h1
  exact absurd (List.mem_of_getElem? (show l[j]? = some y by simpa using h2)) (List.nodup_cons.1 hn).1
 | y :: l, i + 1, 0, x, hn, h1, h2 => by
  cases h2
  exact absurd (List.mem_of_getElem? (show l[i]? = some y by simpa using h1)) (List.nodup_cons.1 hn).1
 | y :: l, i + 1, j + 1, x, hn, h1, h2 => by
  rw [zgQ (List.nodup_cons.1 hn).2 (show l[i]? = some x by simpa using h1) (show l[j]? = some x by simpa using h2)]
theorem Ky.inj {ks : KS} {a b : Ky} (ha : a.ok ks) (hb : b.ok ks) (h : a.v = b.v) : a = b := by
 cases ks <;> cases a <;> first | exact ha.elim | skip
 all_goals cases b <;> first | exact hb.elim | skip
 ·simp only [Ky.v, Value.int.injEq] at h
  rw [h.1, h.2]
 ·simp only [Ky.v, Value.string.injEq] at h
  rw [h]
 ·rename_i q n k l k' l'
  obtain ⟨rfl, _⟩ := ha
  obtain ⟨rfl, _⟩ := hb
  simp only [Ky.v, Value.agg.injEq] at h
  have h2 := congrArg Array.toList h
  simp only at h2
  rw [zgP h2]
section
variable {P : Program} {tt : Tys} {Hy : World → Prop} {X : World → (Nat → Prop) → (Nat → O) → (Nat → Value) → Prop} {B : Nat} {St : Nat → Prop} {Dp : List Deferred → Prop} {w0 w : World} {s : S} {ι : Nat → Value} {a : Act}
theorem zgR : ∀ {l : List (Ky × A)} {j : Nat} {p : Ky × A}, (l.map (·.1)).Nodup → l[j]? = some p → zam l p.1 = some p.2
 | q :: l, 0, p, _, h => by
  cases h
  simp [zam]
 | q :: l, j + 1, p, hn, h => by
  rw [List.map_cons, List.nodup_cons] at hn
  have h' : l[j]? = some p := by simpa using h
  have hne : q.1 ≠ p.1 := fun e => hn.1 (by rw [e]; exact List.mem_map.2 ⟨p, List.mem_of_getElem? h', rfl⟩)
  have ih := zgR hn.2 h'
  unfold zam at ih ⊢
  rw [List.find?_cons, decide_eq_false hne]
  exact ih
theorem zjS {l : List (Ky × A)} {k : Ky} (h : k ∉ l.map (·.1)) : zam l k = none := by
 unfold zam
 rw [List.find?_eq_none.2 (fun p hp => by
  rw [decide_eq_true_eq]
  exact fun e => h (List.mem_map.2 ⟨p, hp, e⟩))]
 rfl
theorem zff {mt kt et : TypeId} {ks : KS} {l : List (Ky × A)} {es : Array MapEntry} {C : Ky × A → MapEntry → Prop} (M : MLaw P tt mt kt et) (hks : ks = zaS tt kt) (hsz : es.size = l.length) (hok : ∀ p ∈ l, p.1.ok ks)
  (hes : ∀ (j : Nat) p, l[j]? = some p → ∃ e, es[j]? = some e ∧ e.key = p.1.v ∧ C p e) {ky : Ky} (hky : ky.ok ks) (w : World) :
  ((Instr.findKey kt ky.v es.toList).run P w = .ok none w ∧ ky ∉ l.map (·.1)) ∨ ∃ j e p, (Instr.findKey kt ky.v es.toList).run P w = .ok (some (j, e.val)) w ∧ es[j]? = some e ∧ l[j]? = some p ∧ p.1 = ky ∧ e.key = ky.v ∧ C p e := by
 subst hks
 obtain ⟨kl, hkl⟩ := M.key ky hky
 have back : ∀ (j : Nat) e, es[j]? = some e → ∃ p, l[j]? = some p ∧ e.key = p.1.v ∧ C p e := fun j e he => by
  have hj := (Array.getElem?_eq_some_iff.1 he).1
  have hp : l[j]? = some l[j] := List.getElem?_eq_getElem (by omega)
  obtain ⟨e', h1, h2⟩ := hes j _ hp
  rw [he] at h1
  cases h1
  exact ⟨_, hp, h2⟩
 have all : ∀ e ∈ es.toList, ∃ l, keyOf P kt e.key = some l := fun e he => by
  obtain ⟨j, hj⟩ := List.getElem?_of_mem he
  obtain ⟨p, hp, hk, _⟩ := back j e (by simpa using hj)
  rw [hk]
  exact M.key _ (hok p (List.mem_of_getElem? hp))
 rcases M.keyed.find w hkl es.toList all with ⟨h1, h2⟩ | ⟨j, e, h1, h2, h3⟩
 ·refine .inl ⟨h1, fun hm => ?_⟩
  obtain ⟨p, hp, rfl⟩ := List.mem_map.1 hm
  obtain ⟨j, hj⟩ := List.getElem?_of_mem hp
  obtain ⟨e, he, hk, _⟩ := hes j p hj
  exact h2 e (List.mem_of_getElem? (by simpa using he)) hk
 ·obtain ⟨p, hp, hk, hc⟩ := back j e (by simpa using h2)
  exact .inr ⟨j, e, p, h1, by simpa using h2, hp, Ky.inj (hok p (List.mem_of_getElem? hp)) hky (by rw [← hk, h3]), h3, hc⟩
theorem zjT (h : Rel Hy X B St w0 Dp s ι a w) {mt kt et : TypeId} (M : MLaw P tt mt kt et) {m x : Operand} {id g : Nat} (e : s.ev m = .row id g) (hg : g = (s.o id).gen) {ks : KS} {l : List (Ky × A)} (hk : (s.o id).k = .map ks l) (hks : ks = zaS tt kt) {ky : Ky} (hx : kyA (s.ev x) = some ky) (hky : ky.ok ks) (c : Bool) {K : A → Prop}
  (hK : match zam l ky with
   | some y => K (if c then .tup [y, .t (.b true)] else y)
   | none => K (if c then .tup [zA tt et, .t (.b false)] else zA tt et)) :
  ∃ v y, (Instr.lookup mt (a.eval m) (a.eval x) c).run P w = .ok v w ∧ Ra w (Sd B St s.o ι w) s.o ι v y ∧ K y := by
 have hm := h.ev m
 rw [e] at hm
 have hv := hm.row_get hg
 have ho := h.ob id
 rw [hk] at ho
 obtain ⟨blk, es, ck, h1, h2, h3, h4, h5, h6, h7⟩ := ho
 have hxv := zd6 hx (h.ev x)
 rw [hv, h1, hxv]
 obtain ⟨kl, hkl⟩ := M.key ky (by rw [← hks]; exact hky)
 obtain ⟨z, hz, hzr⟩ := M.zero
 have tup : ∀ {v : Value} {y : A} (q : Bool), Ra w (Sd B St s.o ι w) s.o ι v y → Ra w (Sd B St s.o ι w) s.o ι (if c then .tuple #[v, .bool q] else v) (if c then .tup [y, .t (.b q)] else y) := fun {v y} q hr => by
  cases c
  ·exact hr
  ·refine .tup _ _ (fun j => if j = 0 then v else .bool q) rfl (fun j hj => ?_) (fun j x hx => ?_)
   ·match j with
    | 0 => rfl
    | 1 => rfl
    | j + 2 => simp at hj; omega
   ·match j with
    | 0 => cases hx; exact hr
    | 1 => cases hx; exact .t (.b q)
    | j + 2 => simp at hx
 rcases zff (C := fun p e => True ∧ Ra w (Sd B St s.o ι w) s.o ι e.val p.2) M hks h4 h6 h7 hky w with ⟨f1, f2⟩ | ⟨j, e0, p, f1, f2, f3, f4, f5, f6, f7⟩
 ·rw [zjS f2] at hK
  exact ⟨_, _, by simp [Instr.lookup, run_underlying M.und, MapKept.run_getObj_map h3, M.keyed.check w _ hkl, f1, hz, Result.andThen], tup false (hzr _ _ _ _), hK⟩
 ·rw [← f4, zgR h5 f3] at hK
  exact ⟨_, _, by simp [Instr.lookup, run_underlying M.und, MapKept.run_getObj_map h3, M.keyed.check w _ hkl, f1, Result.andThen], tup true f7, hK⟩
theorem zjU (h : Rel Hy X B St w0 Dp s ι a w) (id : Nat) (ks : KS) (d : Option Nat) :
  ∃ ι', Rel Hy X B St w0 Dp ((s.ob id ⟨(s.o id).gen + 1, .map ks []⟩).put d (.row id ((s.o id).gen + 1))) ι' (a.put d (.map (some w.heap.size))) (w.alloc (.map #[] 0)) := by
 refine ⟨fun i => if i = id then .map (some w.heap.size) else ι i, Rel.next h id _ (.map (some w.heap.size)) d _ _ ?_ (fun i hi => if_neg hi) (if_pos rfl) (Nat.le_succ _) (fun e => absurd e (Nat.ne_of_lt (Nat.lt_succ_self _))) (fun b hb _ => Below.heap_alloc _ _ _ hb) (fun b e => ?_) (fun mT mA => ?_) (fun mT mA _ => ?_)⟩
 ·exact (Below.refl B w).alloc h.hB _
 ·unfold mb at e
  rw [show (s.ob id ⟨(s.o id).gen + 1, .map ks []⟩).o id = ⟨(s.o id).gen + 1, .map ks []⟩ from if_pos rfl] at e
  simp only [if_true, Value.blk, Option.some.injEq] at e
  exact .inr (Nat.le_of_eq e)
 ·exact ⟨w.heap.size, #[], 0, rfl, h.hB, heap_alloc_new w _, rfl, List.nodup_nil, fun p hp => (by cases hp), fun j p hp => (by simp at hp)⟩
 ·refine .row ?_ (fun _ => (if_pos rfl).symm) rfl
  rw [show (s.ob id ⟨(s.o id).gen + 1, .map ks []⟩).o id = ⟨(s.o id).gen + 1, .map ks []⟩ from if_pos rfl]
  exact Nat.le_refl _
theorem zgS (h : Rel Hy X B St w0 Dp s ι a w) {mt kt et : TypeId} (M : MLaw P tt mt kt et) {m x v : Operand} {id g : Nat} (e : s.ev m = .row id g) (hg : g = (s.o id).gen) {ks : KS} {l : List (Ky × A)} (hk : (s.o id).k = .map ks l) (hks : ks = zaS tt kt) {ky : Ky} (hx : kyA (s.ev x) = some ky) (hky : ky.ok ks) (dst : Option Nat) :
  ∃ w', (Instr.mapUpdate mt (a.eval m) (a.eval x) (a.eval v)).run P w = .ok () w' ∧ Rel Hy X B St w0 Dp ((s.ob id ⟨g, .map ks (zaE l ky (s.ev v))⟩).put dst .junk) ι (a.put dst undef) w' := by
 have hm := h.ev m
 rw [e] at hm
 have hv := hm.row_get hg
 have ho := h.ob id
 rw [hk] at ho
 obtain ⟨blk, es, ck, h1, h2, h3, h4, h5, h6, h7⟩ := ho
 have hxv := zd6 hx (h.ev x)
 rw [hv, h1, hxv]
 obtain ⟨kl, hkl⟩ := M.key ky (by rw [← hks]; exact hky)
 have hmb : mb s.o ι id = some blk := by unfold mb; rw [hk, h1]; rfl
 have fin : ∀ {es' : Array MapEntry} {ck' : Nat} {l' : List (Ky × A)}, es'.size = l'.length → (l'.map (·.1)).Nodup → (∀ p ∈ l', p.1.ok ks) → (∀ (w' : World) (D : Nat → Prop) (o : Nat → O), (∀ (v : Value) (z : A), Ra w (Sd B St s.o ι w) s.o ι v z → Ra w' D o ι v z) →
   ∀ (j : Nat) p, l'[j]? = some p → ∃ e, es'[j]? = some e ∧ e.key = p.1.v ∧ True ∧ Ra w' D o ι e.val p.2) → Rel Hy X B St w0 Dp ((s.ob id ⟨g, .map ks l'⟩).put dst .junk) ι (a.put dst undef) (setBlock w blk (.map es' ck')) := fun {es' ck' l'} g1 g2 g3 g4 => by
  refine Rel.next h id _ (ι id) dst _ _ ⟨rfl, rfl, rfl, by simp [setBlock], fun i hi => heap_setBlock_other h3 _ (by omega)⟩ (fun _ _ => rfl) rfl (Nat.le_of_eq hg.symm) (fun _ => rfl) (fun b hb hne => heap_setBlock_other h3 _ (fun e => hne (by rw [hmb, e]))) (fun b hb => ?_) (fun mT mA => ?_) (fun _ _ _ => .junk)
  ·left
   rw [hmb, ← hb]
   unfold mb
   rw [show (s.ob id ⟨g, .map ks l'⟩).o id = ⟨g, .map ks l'⟩ from if_pos rfl, h1]
   rfl
  ·exact ⟨blk, es', ck', h1, h2, heap_setBlock_same h3 _, g1, g2, g3, g4 _ _ _ mA⟩
 rcases zff (C := fun p e => True ∧ Ra w (Sd B St s.o ι w) s.o ι e.val p.2) M hks h4 h6 h7 hky w with ⟨f1, f2⟩ | ⟨j, e0, p, f1, f2, f3, f4, f5, f6, f7⟩
 ·refine ⟨_, by simp [Instr.mapUpdate, run_underlying M.und, MapKept.run_getObj_map h3, M.keyed.check w _ hkl, f1, MapKept.run_setObj_map _ h3, Result.andThen]; rfl, fin (es' := es.push ⟨ky.v, a.eval v, ck⟩) (ck' := ck + 1) ?_ ?_ ?_ ?_⟩
  ·rw [zaE, if_neg f2]
   simp [h4]
  ·rw [zaE, if_neg f2, List.map_append, List.nodup_append]
   refine ⟨h5, by simp, fun u hu y hy => ?_⟩
   have hy : y = ky := by simpa using hy
   exact fun e => f2 (by rw [← hy, ← e]; exact hu)
  ·rw [zaE, if_neg f2]
   intro q hq
   rcases List.mem_append.1 hq with hq | hq
   ·exact h6 q hq
   ·rw [List.mem_singleton.1 hq]
    exact hky
  ·rw [zaE, if_neg f2]
   intro w' D o mA j q hq
   by_cases hj : j < l.length
   ·rw [List.getElem?_append_left hj] at hq
    obtain ⟨e1, q1, q2, q3, q4⟩ := h7 j q hq
    exact ⟨e1, by rw [Array.getElem?_push, if_neg (by omega)]; exact q1, q2, q3, mA _ _ q4⟩
   ·rw [List.getElem?_append_right (by omega)] at hq
    have hj2 : j = es.size := by
     have := (List.getElem?_eq_some_iff.1 hq).1
     simp at this
     omega
    rw [show j - l.length = 0 by omega] at hq
    cases hq
    exact ⟨_, by rw [hj2, Array.getElem?_push, if_pos rfl], rfl, trivial, mA _ _ (h.ev v)⟩
 ·have hmem : ky ∈ l.map (·.1) := List.mem_map.2 ⟨p, List.mem_of_getElem? f3, f4⟩
  have hst := M.keyed.stays w hkl
  have hidx : ∀ (i : Nat) q, l[i]? = some q → (q.1 = ky ↔ i = j) := fun i q hq => by
   have a1 : (l.map (·.1))[i]? = some q.1 := by rw [List.getElem?_map, hq]; rfl
   have a2 : (l.map (·.1))[j]? = some p.1 := by rw [List.getElem?_map, f3]; rfl
   constructor
   ·intro e
    exact zgQ h5 (by rw [a1, e]) (by rw [a2, f4])
   ·intro e
    subst e
    rw [f3] at hq
    cases hq
    exact f4
  refine ⟨_, by simp [Instr.mapUpdate, run_underlying M.und, MapKept.run_getObj_map h3, M.keyed.check w _ hkl, f1, f2, f5, hst, MapKept.run_setObj_map _ h3, Result.andThen]; rfl, fin (es' := es.modify j fun e => { e with key := ky.v, val := a.eval v }) (ck' := ck) ?_ ?_ ?_ ?_⟩
  ·rw [zaE, if_pos hmem]
   simp [h4]
  ·rw [zaE, if_pos hmem, List.map_map]
   have : (l.map ((fun x => x.1) ∘ fun p => if p.1 = ky then (ky, s.ev v) else p)) = l.map (·.1) := List.map_congr_left (fun q hq => by
    show (if q.1 = ky then (ky, s.ev v) else q).1 = q.1
    split
    ·rename_i e; exact e.symm
    ·rfl)
   rw [this]
   exact h5
  ·rw [zaE, if_pos hmem]
   intro q hq
   obtain ⟨q0, hq0, rfl⟩ := List.mem_map.1 hq
   split
   ·exact hky
   ·exact h6 q0 hq0
  ·rw [zaE, if_pos hmem]
   intro w' D o mA i q hq
   rw [List.getElem?_map] at hq
   obtain ⟨q0, hq0, rfl⟩ := Option.map_eq_some_iff.1 hq
   obtain ⟨e1, q1, q2, q3, q4⟩ := h7 i q0 hq0
   rw [Array.getElem?_modify, q1]
   by_cases hi : i = j
   ·rw [if_pos hi.symm, if_pos ((hidx i q0 hq0).2 hi)]
    exact ⟨_, rfl, rfl, trivial, mA _ _ (h.ev v)⟩
   ·rw [if_neg (fun e => hi e.symm), if_neg (fun e => hi ((hidx i q0 hq0).1 e))]
    exact ⟨e1, rfl, q2, q3, mA _ _ q4⟩
theorem zgT : ∀ {l : List (Ky × A)} {j : Nat} {p : Ky × A}, (l.map (·.1)).Nodup → l[j]? = some p → zbt l p.1 = l.eraseIdx j
 | q :: l, 0, p, hn, h => by
  cases h
  rw [List.map_cons, List.nodup_cons] at hn
  unfold zbt
  rw [List.filter_cons, if_neg (by simp), List.eraseIdx_cons_zero]
  exact List.filter_eq_self.2 fun r hr => decide_eq_true fun e => hn.1 (by rw [← e]; exact List.mem_map.2 ⟨r, hr, rfl⟩)
 | q :: l, j + 1, p, hn, h => by
  rw [List.map_cons, List.nodup_cons] at hn
  have h' : l[j]? = some p := by simpa using h
  have hne : q.1 ≠ p.1 := fun e => hn.1 (by rw [e]; exact List.mem_map.2 ⟨p, List.mem_of_getElem? h', rfl⟩)
  have ih := zgT hn.2 h'
  unfold zbt at ih ⊢
  rw [List.filter_cons, if_pos (decide_eq_true hne), List.eraseIdx_cons_succ, ih]
theorem zjV {l : List (Ky × A)} {k : Ky} (h : k ∉ l.map (·.1)) : zbt l k = l := List.filter_eq_self.2 fun r hr => decide_eq_true fun e => h (by rw [← e]; exact List.mem_map.2 ⟨r, hr, rfl⟩)
theorem zjW (h : Rel Hy X B St w0 Dp s ι a w) {mt kt et : TypeId} (M : MLaw P tt mt kt et) {m x : Operand} {id g : Nat} (e : s.ev m = .row id g) (hg : g = (s.o id).gen) {ks : KS} {l : List (Ky × A)} (hk : (s.o id).k = .map ks l) (hks : ks = zaS tt kt) {ky : Ky} (hx : kyA (s.ev x) = some ky) (hky : ky.ok ks) (dst : Option Nat) (ty t2 : TypeId) :
  ∃ w', (Builtin.delete_ #[mt, t2] ty #[a.eval m, a.eval x]).run P w = .ok (.tuple #[]) w' ∧ Rel Hy X B St w0 Dp ((s.ob id ⟨g, .map ks (zbt l ky)⟩).put dst (.tup [])) ι (a.put dst (.tuple #[])) w' := by
 have hm := h.ev m
 rw [e] at hm
 have hv := hm.row_get hg
 have ho := h.ob id
 rw [hk] at ho
 obtain ⟨blk, es, ck, h1, h2, h3, h4, h5, h6, h7⟩ := ho
 have hxv := zd6 hx (h.ev x)
 rw [hv, h1, hxv]
 obtain ⟨kl, hkl⟩ := M.key ky (by rw [← hks]; exact hky)
 have hmb : mb s.o ι id = some blk := by unfold mb; rw [hk, h1]; rfl
 have fin : ∀ {es' : Array MapEntry} {l' : List (Ky × A)}, es'.size = l'.length → (l'.map (·.1)).Nodup → (∀ p ∈ l', p.1.ok ks) → (∀ (w' : World) (D : Nat → Prop) (o : Nat → O), (∀ (v : Value) (z : A), Ra w (Sd B St s.o ι w) s.o ι v z → Ra w' D o ι v z) →
   ∀ (j : Nat) p, l'[j]? = some p → ∃ e, es'[j]? = some e ∧ e.key = p.1.v ∧ True ∧ Ra w' D o ι e.val p.2) → Rel Hy X B St w0 Dp ((s.ob id ⟨g, .map ks l'⟩).put dst (.tup [])) ι (a.put dst (.tuple #[])) (setBlock w blk (.map es' ck)) := fun {es' l'} g1 g2 g3 g4 => by
  refine Rel.next h id _ (ι id) dst _ _ ⟨rfl, rfl, rfl, by simp [setBlock], fun i hi => heap_setBlock_other h3 _ (by omega)⟩ (fun _ _ => rfl) rfl (Nat.le_of_eq hg.symm) (fun _ => rfl) (fun b hb hne => heap_setBlock_other h3 _ (fun e => hne (by rw [hmb, e]))) (fun b hb => ?_) (fun mT mA => ?_) (fun _ _ _ => .tup #[] [] (fun _ => undef) rfl (fun j hj => absurd hj (Nat.not_lt_zero j)) (fun j x hx => by simp at hx))
  ·left
   rw [hmb, ← hb]
   unfold mb
   rw [show (s.ob id ⟨g, .map ks l'⟩).o id = ⟨g, .map ks l'⟩ from if_pos rfl, h1]
   rfl
  ·exact ⟨blk, es', ck, h1, h2, heap_setBlock_same h3 _, g1, g2, g3, g4 _ _ _ mA⟩
 rcases zff (C := fun p e => True ∧ Ra w (Sd B St s.o ι w) s.o ι e.val p.2) M hks h4 h6 h7 hky w with ⟨f1, f2⟩ | ⟨j, e0, p, f1, f2, f3, f4, f5, f6, f7⟩
 ·refine ⟨_, by simp [Builtin.delete_, run_underlying M.und, MapKept.run_getObj_map h3, M.keyed.check w _ hkl, f1, MapKept.run_setObj_map _ h3, Result.andThen]; rfl, fin (es' := es) ?_ ?_ ?_ ?_⟩
  all_goals rw [zjV f2]
  ·exact h4
  ·exact h5
  ·exact h6
  ·intro w' D o mA j q hq
   obtain ⟨e1, q1, q2, q3, q4⟩ := h7 j q hq
   exact ⟨e1, q1, q2, q3, mA _ _ q4⟩
 ·have hj := (List.getElem?_eq_some_iff.1 f3).1
  refine ⟨_, by simp [Builtin.delete_, run_underlying M.und, MapKept.run_getObj_map h3, M.keyed.check w _ hkl, f1, MapKept.run_setObj_map _ h3, Result.andThen]; rfl, fin (es' := es.eraseIdxIfInBounds j) ?_ ?_ ?_ ?_⟩
  all_goals rw [← f4, zgT h5 f3]
  ·rw [← Array.length_toList, Array.toList_eraseIdxIfInBounds, List.length_eraseIdx, List.length_eraseIdx, if_pos hj, if_pos (by simp; omega)]
   simp [h4]
  ·exact h5.sublist ((List.eraseIdx_sublist _ _).map _)
  ·exact fun q hq => h6 q ((List.eraseIdx_sublist _ _).subset hq)
  ·intro w' D o mA i q hq
   have hes : (es.eraseIdxIfInBounds j)[i]? = if i < j then es[i]? else es[i + 1]? := by
    rw [← Array.getElem?_toList, Array.toList_eraseIdxIfInBounds, List.getElem?_eraseIdx]
    simp
   rw [List.getElem?_eraseIdx] at hq
   rw [hes]
   split at hq
   ·rename_i hi
    obtain ⟨e1, q1, q2, q3, q4⟩ := h7 i q hq
    exact ⟨e1, by rw [if_pos hi]; exact q1, q2, q3, mA _ _ q4⟩
   ·rename_i hi
    obtain ⟨e1, q1, q2, q3, q4⟩ := h7 (i + 1) q hq
    exact ⟨e1, by rw [if_neg hi]; exact q1, q2, q3, mA _ _ q4⟩
end
end Go.Proofs.YtbhoeanfnbkenaaGreatDoor
namespace Go.Proofs.YtbhoeanfnbkenaaGreatDoor
open Go.RowKit
section
variable {P : Program} {tt : Tys} {Hy : World → Prop} {X : World → (Nat → Prop) → (Nat → O) → (Nat → Value) → Prop} {cls : Nat → Nat} {B : Nat} {St : Nat → Prop} {Dp : List Deferred → Prop} {w0 w : World} {s : S} {ι : Nat → Value} {a : Act}
theorem zfg (h : Rel Hy X B St w0 Dp s ι a w) (place : Nat → Option (Nat × Nat)) : ∀ (parts : List (Nat × Operand)) (l l' : List A) (cs : Array Value), cs.size = l.length →
  (∀ (j : Nat) y, l[j]? = some y → ∃ c, cs[j]? = some c ∧ Ra w (Sd B St s.o ι w) s.o ι c y) → zcP place l (parts.map fun p => (p.1, s.ev p.2)) = some l' →
  ∃ cs', Instr.fill place cs (parts.map fun p => (p.1, a.eval p.2)) = some cs' ∧ cs'.size = l'.length ∧ ∀ (j : Nat) y, l'[j]? = some y → ∃ c, cs'[j]? = some c ∧ Ra w (Sd B St s.o ι w) s.o ι c y
 | [], l, l', cs, hz, hc, hf => by
  simp only [List.map_nil, zcP, Option.some.injEq] at hf
  subst hf
  exact ⟨cs, rfl, hz, hc⟩
 | (i, x) :: rest, l, l', cs, hz, hc, hf => by
  simp only [List.map_cons, zcP] at hf
  split at hf
  ·rename_i off n hp
   split at hf
   ·rename_i hcond
    obtain ⟨h1, h2, h3⟩ := hcond
    obtain ⟨c1, c2⟩ := zdb (h.ev x) h3
    obtain ⟨g1, g2⟩ := Great.foldl_set off (a.eval x).cells.toList 0 cs
    have hal : off + (z7 (s.ev x)).length ≤ l.length := by omega
    obtain ⟨cs', f1, f2, f3⟩ := zfg h place rest (zap l off (z7 (s.ev x))) l' (((a.eval x).cells.toList.zipIdx 0).foldl (fun cs (x : Value × Nat) => cs.setIfInBounds (off + x.2) x.1) cs) (by rw [g1, zcc _ _ _ hal, hz]) (fun j y hy => by
     rw [zbT _ _ _ hal] at hy
     rw [g2 j]
     simp only [Nat.add_zero, Array.length_toList, c1]
     have hjl : j < cs.size := by
      rw [hz]
      split at hy
      ·exact (List.getElem?_eq_some_iff.1 hy).1
      ·split at hy
       ·omega
       ·exact (List.getElem?_eq_some_iff.1 hy).1
     by_cases hA : j < off
     ·rw [if_pos hA] at hy
      rw [if_neg (by omega)]
      exact hc j y hy
     ·rw [if_neg hA] at hy
      by_cases hB : j < off + (z7 (s.ev x)).length
      ·rw [if_pos hB] at hy
       rw [if_pos ⟨by omega, hB, hjl⟩]
       obtain ⟨c, p1, p2⟩ := c2 _ y hy
       exact ⟨c, by simpa using p1, p2⟩
      ·rw [if_neg hB] at hy
       rw [if_neg (by omega)]
       exact hc j y hy) hf
    refine ⟨cs', ?_, f2, f3⟩
    simp only [List.map_cons]
    unfold Instr.fill
    simp only [hp]
    rw [if_neg (by simp [c1, h1]; omega), ← f1]
    congr 1
    rw [← Array.foldl_toList, Array.toList_zipIdx]
   ·cases hf
  ·cases hf
theorem zgU (hT : Tys.ok P tt) : ∀ (F : List Field) (pl : List (Nat × Nat)), zda tt (F.map fun f => (f.offset, f.type)) = some pl → F.mapM (fun f => (P.info? f.type).map fun i => (f.offset, i.size)) = some pl
 | [], pl, h => by
  simp only [List.map_nil, zda, Option.some.injEq] at h
  subst h
  rfl
 | f :: F, pl, h => by
  simp only [List.map_cons, zda] at h
  split at h
  ·rename_i d r hd hr
   cases h
   obtain ⟨i, z, i1, i2, _⟩ := (hT _ _ hd).info
   rw [List.mapM_cons, zgU hT F r hr]
   simp [i1, i2]
  ·cases h
theorem zjX (h : Rel Hy X B St w0 Dp s ι a w) (hT : Tys.ok P tt) {K : S → Prop} {dst : Option Nat} {ty : TypeId} {parts : Array (Nat × Operand)} (hk : Ek P Hy tt cls dst (.build ty parts) s K) :
  ∃ ι' s' v w', (Instr.build ty (parts.map fun (i, x) => (i, a.eval x))).run P w = .ok v w' ∧ Rel Hy X B St w0 Dp s' ι' (a.put dst v) w' ∧ K s' := by
 obtain ⟨d, _, hk⟩ := zE hk
 obtain ⟨td, hd, hk⟩ := zE hk
 obtain ⟨i, z, i1, i2, i3, i4, i5⟩ := (hT _ _ hd).info
 obtain ⟨u, hu, hok⟩ := (hT _ _ hd).desc
 obtain ⟨hok, _⟩ := hok
 have zl : ∀ (j : Nat) y, (td.zero.map zaN)[j]? = some y → ∃ c, z.cells[j]? = some c ∧ Ra w (Sd B St s.o ι w) s.o ι c y := fun j y hy => by
  rw [List.getElem?_map] at hy
  obtain ⟨v, hv, rfl⟩ := Option.map_eq_some_iff.1 hy
  rw [← i5] at hv
  exact ⟨v, by simpa using hv, zcG _ _ v⟩
 have zz : z.cells.size = (td.zero.map zaN).length := by rw [List.length_map, ← i5]; simp
 have fin : ∀ {cs' : Array Value} {l : List A}, l.all A.leaf = true → cs'.size = l.length → (∀ (j : Nat) y, l[j]? = some y → ∃ c, cs'[j]? = some c ∧ Ra w (Sd B St s.o ι w) s.o ι c y) → Ra w (Sd B St s.o ι w) s.o ι (.agg cs') (.ag l) := fun {cs' l} q0 q1 q2 => by
  refine .ag cs' l (fun j => cs'.getD j undef) q1 (fun j hj => ?_) (fun j x hx => ?_) (fun j x hx => ?_)
  ·obtain ⟨c, hc, _⟩ := q2 j _ (List.getElem?_eq_getElem hj)
   simp [Array.getD_eq_getD_getElem?, hc]
  ·exact List.all_eq_true.1 q0 x (List.mem_of_getElem? hx)
  ·obtain ⟨c, hc, hr⟩ := q2 j x hx
   rw [show cs'.getD j undef = c by simp [Array.getD_eq_getD_getElem?, hc]]
   exact hr
 have pe : (parts.map fun (i, x) => (i, a.eval x)).toList = parts.toList.map fun p => (p.1, a.eval p.2) := by
  rw [Array.toList_map]
 split at hk
 ·rename_i fs e
  rw [e] at hok
  obtain ⟨F, rfl, rfl⟩ := hok
  obtain ⟨pl, hpl, hk⟩ := zE hk
  obtain ⟨l, hl, q0, hk⟩ := zE hk
  obtain ⟨cs', f1, f2, f3⟩ := zfg h (fun i => pl[i]?) parts.toList _ l z.cells zz zl hl
  refine ⟨ι, _, .agg cs', w, run_build w ty _ cs' ?_, h.pure _ _ _ (fun _ => fin q0 f2 f3), hk⟩
  unfold Program.built
  simp only [i1, hu, i4, zgU hT F.toList pl hpl, pe, List.getElem?_toArray]
  exact f1
 ·rename_i n e he
  rw [he] at hok
  simp only [TK.ok] at hok
  subst hok
  obtain ⟨de, hde, hk⟩ := zE hk
  obtain ⟨l, hl, q0, hk⟩ := zE hk
  obtain ⟨ie, ze, e1, e2, _⟩ := (hT _ _ hde).info
  obtain ⟨cs', f1, f2, f3⟩ := zfg h (fun i => some (i * de.size, de.size)) parts.toList _ l z.cells zz zl hl
  refine ⟨ι, _, .agg cs', w, run_build w ty _ cs' ?_, h.pure _ _ _ (fun _ => fin q0 f2 f3), hk⟩
  unfold Program.built
  simp only [i1, hu, i4, e1, e2, pe]
  exact f1
 ·exact hk.elim
def isE : Op → Bool
 | .box .. => true
 | .alloc .. => true
 | .store .. => true
 | .makeSlice .. => true
 | .buildSlice .. => true
 | .build .. => true
 | .slice .. => true
 | .makeMap .. => true
 | .mapUpdate .. => true
 | .insert .. => true
 | .lookup .. => true
 | .call c => match c.callee with
  | .builtin .append => true
  | .builtin .delete => true
  | .value _ => true
  | _ => false
 | _ => false
def op1 (P : Program) (Hy : World → Prop) (tt : Tys) (cls : Nat → Nat) (o : Oper) (s : S) (K : S → Prop) : Prop := match isE o.op with
 | true => Ek P Hy tt cls o.dst o.op s K
 | false => Pk tt o.op s fun y => K (s.put o.dst y)
def opK (P : Program) (Hy : World → Prop) (tt : Tys) (cls : Nat → Nat) (ops : List Oper) (o : Oper) (s : S) (K : S → Prop) : Prop := match o.guard with
 | none => op1 P Hy tt cls o s K
 | some (g, want) => match (ops[g]?).bind (·.dst) with
  | some t => t < s.n ∧ match s.t t with
   | .t (.b q) => (q = want → op1 P Hy tt cls o s K) ∧ (q = !want → K (s.put o.dst (.tup [])))
   | .tup [] => K (s.put o.dst (.tup []))
   | _ => False
  | none => False
theorem zgV (hT : Tys.ok P tt) (h : Rel Hy X B St w0 Dp s ι a w) {Q : Exit → Act → World → Prop} {o : Oper} {K : S → Prop} {K' : Act → World → Prop} (hs : ∀ s ι a w, Rel Hy X B St w0 Dp s ι a w → K s → K' a w)
  (hk : op1 P Hy tt cls o s K) : o.wp P a w K' Q := by
 unfold Oper.wp
 unfold op1 at hk
 have val : ∀ {v : Value} {w' : World}, (execOp a.eval o).run P w = .ok (.value v) w' → K' (a.put o.dst v) w' → o.upon P a K' Q ((execOp a.eval o).run P w) := fun e hK => by rw [e]; exact hK
 split at hk
 ·rename_i he
  obtain ⟨dst, op, type, pos, after, guard⟩ := o
  cases op <;> first | (cases he; done) | skip
  case box ty x =>
   obtain ⟨d, hd, hl, hk⟩ := zE hk
   obtain ⟨c1, c2⟩ := zdb (h.ev x) hl
   obtain ⟨ι', hR⟩ := zhz h (cls d) ty (z7 (s.ev x)) (a.eval x).cells c1 hl c2 dst
   exact val (v := .pointer (some ⟨w.heap.size, 0, none⟩)) rfl (hs _ ι' _ _ hR hk)
  case alloc ty =>
   obtain ⟨d, hd, hk⟩ := zE hk
   obtain ⟨td, htd, hl, hk⟩ := zE hk
   obtain ⟨i, z, i1, i2, i3, i4, i5⟩ := (hT _ _ htd).info
   have zz : z.cells.size = (td.zero.map zaN).length := by rw [List.length_map, ← i5]; simp
   obtain ⟨ι', hR⟩ := zhz h (cls d) ty (td.zero.map zaN) z.cells zz hl (fun j y hy => by
    rw [List.getElem?_map] at hy
    obtain ⟨v, hv, rfl⟩ := Option.map_eq_some_iff.1 hy
    rw [← i5] at hv
    exact ⟨v, by simpa using hv, zcG _ _ v⟩) dst
   refine val (v := .pointer (some ⟨w.heap.size, 0, none⟩)) ?_ (hs _ ι' _ _ hR hk)
   simp [execOp, Instr.alloc, zeroValue, zdt i1, i4, newVar, newRow]
  case store ty x v =>
   obtain ⟨td, htd, hk⟩ := zE hk
   split at hk
   ·rename_i id g off e
    obtain ⟨hg, hk⟩ := hk
    split at hk
    ·rename_i ty' l hkk
     obtain ⟨⟨h1, h2, h3⟩, hk⟩ := hk
     obtain ⟨w', r1, r2⟩ := zkR h hT htd e hg hkk h1 h2 h3 dst
     have := zd5 (P := P) (w := w) _ r1
     simp only [execOp] at this ⊢
     rw [this]
     exact hs _ ι _ _ r2 hk
    ·exact hk.elim
   ·rename_i id g z i off e
    obtain ⟨hg, hk⟩ := hk
    split at hk
    ·rename_i ty' z' l hkk
     obtain ⟨rfl, hk⟩ := hk
     obtain ⟨t, ids, _, hf, rfl, h1, h2, hk⟩ := zfo h (h.ev v) (zhr hk)
     obtain ⟨el, hel, h3, hk⟩ := zE hk
     obtain ⟨w', r1, r2⟩ := zkS h hT htd e hg hkk hf h1 h2 hel h3 dst
     have := zd5 (P := P) (w := w) _ r1
     simp only [execOp] at this ⊢
     rw [this]
     exact hs _ ι _ _ r2 hk
    ·rename_i ty' z' l hkk
     obtain ⟨rfl, ⟨h1, h2⟩, hk⟩ := hk
     obtain ⟨el, hel, h3, hk⟩ := zE hk
     obtain ⟨w', r1, r2⟩ := zkT h hT htd e hg hkk h1 h2 hel h3 dst
     have := zd5 (P := P) (w := w) _ r1
     simp only [execOp] at this ⊢
     rw [this]
     exact hs _ ι _ _ r2 hk
    ·exact hk.elim
   ·exact hk.elim
  case makeSlice ty n c =>
   obtain ⟨ι', s', v, w', r1, r2, hk⟩ := zkX h hT hk
   exact val (zbW _ r1) (hs _ ι' _ _ r2 hk)
  case buildSlice ty n parts =>
   obtain ⟨ι', s', v, w', r1, r2, hk⟩ := zkW h hT hk
   exact val (zbW _ r1) (hs _ ι' _ _ r2 hk)
  case build ty parts =>
   obtain ⟨ι', s', v, w', r1, r2, hk⟩ := zjX h hT hk
   exact val (zbW _ r1) (hs _ ι' _ _ r2 hk)
  case slice ty x lo hi mx =>
   obtain ⟨ι', s', v, r1, r2, hk⟩ := zk3 h hT hk
   exact val (zbW _ r1) (hs _ ι' _ _ r2 hk)
  case makeMap mt r =>
   cases r with
   | some r => exact hk.elim
   | none =>
    obtain ⟨d, hd, hk⟩ := zE hk
    obtain ⟨td, htd, hk⟩ := zE hk
    split at hk
    ·obtain ⟨_, hk⟩ := hk
     obtain ⟨ι', hR⟩ := zjU h (cls d) _ dst
     exact val (v := .map (some w.heap.size)) rfl (hs _ ι' _ _ hR hk)
    ·exact hk.elim
  case mapUpdate mt m x v =>
   obtain ⟨td, htd, hk⟩ := zE hk
   split at hk
   ·rename_i kt et id g _ e
    obtain ⟨M, hg, hk⟩ := hk
    split at hk
    ·rename_i ks l hkk
     obtain ⟨hks, hk⟩ := hk
     obtain ⟨ky, hx, hky, hk⟩ := zE hk
     obtain ⟨w', r1, r2⟩ := zgS h M e hg hkk hks hx hky dst
     have := zd5 (P := P) (w := w) _ r1
     simp only [execOp] at this ⊢
     rw [this]
     exact hs _ ι _ _ r2 hk
    ·exact hk.elim
   ·exact hk.elim
  case insert mt m x v =>
   obtain ⟨td, htd, hk⟩ := zE hk
   split at hk
   ·rename_i kt et id g _ e
    obtain ⟨M, hg, hk⟩ := hk
    split at hk
    ·rename_i ks l hkk
     obtain ⟨hks, hk⟩ := hk
     obtain ⟨ky, hx, hky, hk⟩ := zE hk
     obtain ⟨w', r1, r2⟩ := zgS h M e hg hkk hks hx hky dst
     have := zd5 (P := P) (w := w) _ r1
     simp only [execOp] at this ⊢
     rw [this]
     exact hs _ ι _ _ r2 hk
    ·exact hk.elim
   ·exact hk.elim
  case lookup mt m x c =>
   obtain ⟨td, htd, hk⟩ := zE hk
   split at hk
   ·rename_i kt et id g _ e
    obtain ⟨M, hg, hk⟩ := hk
    split at hk
    ·rename_i ks l hkk
     obtain ⟨hks, hk⟩ := hk
     obtain ⟨ky, hx, hky, hk⟩ := zE hk
     obtain ⟨v, y, r1, r2, hk⟩ := zjT h M e hg hkk hks hx hky c (K := fun y => K (s.put dst y)) hk
     exact val (zbW _ r1) (hs _ ι _ _ (h.pure _ _ _ (fun _ => r2)) hk)
    ·exact hk.elim
   ·exact hk.elim
  case call c =>
   obtain ⟨callee, args, tys⟩ := c
   cases callee with
   | builtin b =>
    cases b <;> first | (cases he; done) | skip
    case delete =>
     simp only [Ek, zdO] at hk
     split at hk
     ·rename_i m x mt t2 ea eb
      obtain ⟨td, htd, hk⟩ := zE hk
      split at hk
      ·rename_i kt et id g _ e
       obtain ⟨M, hg, hk⟩ := hk
       split at hk
       ·rename_i ks l hkk
        obtain ⟨hks, hk⟩ := hk
        obtain ⟨ky, hx, hky, hk⟩ := zE hk
        have e1 : args = #[m, x] := by rw [← Array.toArray_toList (xs := args), ea]
        have e2 : tys = #[mt, t2] := by rw [← Array.toArray_toList (xs := tys), eb]
        subst e1 e2
        obtain ⟨w', r1, r2⟩ := zjW h M e hg hkk hks hx hky dst type t2
        have em : #[m, x].map a.eval = #[a.eval m, a.eval x] := by simp
        rw [← em] at r1
        exact val (show (builtin .delete #[mt, t2] type (#[m, x].map fun | .const _ => true | _ => false) (#[m, x].map a.eval)).run P w = _ from zbW _ r1) (hs _ ι _ _ r2 hk)
       ·exact hk.elim
      ·exact hk.elim
     ·exact hk.elim
    obtain ⟨ι', s', v, w', r1, r2, hk⟩ := zk0 h hT (args := args.toList) (tys := tys.toList) hk type (args.map fun | .const _ => true | _ => false)
    rw [show (args.toList.map a.eval).toArray = args.map a.eval by rw [← Array.toList_map, Array.toArray_toList]] at r1
    exact val r1 (hs _ ι' _ _ r2 hk)
   | invoke r m => cases he
   | value f =>
    cases f <;> first | exact hk.elim | skip
    ·rename_i t
     simp only [Ek] at hk
     split at hk
     ·rename_i f l m e
      have hx := h.ev (.tmp t)
      rw [e] at hx
      obtain ⟨cs, ds, hv, ha1, ha2⟩ := hx.fn_get
      have ha := (Alike.app (show Alike w (Sd B St s.o ι w) s.o ι cs l from ha1) (h.alike args)).app (show Alike w (Sd B St s.o ι w) s.o ι ds m from ha2)
      obtain ⟨⟨fn, f1, f2, f3⟩, hc⟩ := zhy (Q := Q) h (dst := dst) hs ha.1 (fun j x hx => by
       obtain ⟨c, hc, hr⟩ := ha.2 j x hx
       rw [show (cs ++ args.map a.eval ++ ds).getD j undef = c by rw [Array.getD_eq_getD_getElem?, hc]; rfl]
       exact hr) (zem hk)
      have run : (execOp a.eval ⟨dst, .call ⟨.value (.tmp t), args, tys⟩, type, pos, after, guard⟩).run P w = .ok (.enter f (cs ++ args.map a.eval ++ ds)) w := by
       simp [execOp, resolve, Deferred.ofValue, hv, invoke, callFunc, f1, f2, f3]
      rw [run]
      exact hc
     ·exact hk.elim
    rename_i f
    obtain ⟨⟨fn, f1, f2, f3⟩, hc⟩ := zkP (Q := Q) h (dst := dst) (args := args.toList) hs (zem hk)
    rw [show (args.toList.map a.eval).toArray = args.map a.eval by rw [← Array.toList_map, Array.toArray_toList]] at hc
    have run : (execOp a.eval ⟨dst, .call ⟨.value (.func f), args, tys⟩, type, pos, after, guard⟩).run P w = .ok (.enter f (args.map a.eval)) w := by
     simp [execOp, resolve, Deferred.ofValue, Act.eval, invoke, callFunc, f1, f2, f3]
    rw [run]
    exact hc
 ·obtain ⟨v, y, r1, r2, hk⟩ := znf hT h o _ hk
  exact val r1 (hs _ ι _ _ (h.pure _ _ _ (fun _ => r2)) hk)
end
end Go.Proofs.YtbhoeanfnbkenaaGreatDoor
namespace Go.Proofs.YtbhoeanfnbkenaaGreatDoor
open Go.RowKit
def FW : Option Nat → Fence
 | none => Fence.wide
 | some l => Fence.wide.inRound l
section
variable {P : Program} {ro : Option Nat} {n : Nat}
theorem zc7 (f : FuncId) : (FW ro).fn f := by cases ro <;> trivial
theorem zdH : (FW ro).depth = none := by cases ro <;> rfl
theorem zjY {m m' : Machine} : StepsIn (Machine.fenced P (FW ro)) P m m' ↔ Steps P m m' := by
 cases ro
 ·exact stepsIn_wide
 ·exact stepsIn_wide
theorem zdI {f : FuncId} {args : Array Value} {w : World} {R : Ending → World → Prop} : CallsIn (FW ro) n P f args w R ↔ Calls P f args w R := by
 cases ro
 ·exact callsIn_wide
 ·exact callsIn_wide (n := n)
theorem zjZ {row : String} {args : Array Value} {w : World} {R : Value → World → Prop} (h : Rows P row args w R) : RowsIn (FW ro) n P row args w R := fun c cs _ => by
 obtain ⟨v, w', r, s⟩ := h c cs
 exact ⟨v, w', r, zjY.2 s⟩
theorem zcI {o : Oper} {a : Act} {w : World} {K : Act → World → Prop} {Q : Exit → Act → World → Prop} (hd : ∀ c, o.op ≠ .defer c) (h : o.wp P a w K Q) : o.wpIn (FW ro) n P a w K Q := by
 refine ⟨fun f _ => zc7 f, ?_⟩
 rw [Oper.semAt_eq _ _ _ hd]
 unfold Oper.wp at h
 generalize (execOp a.eval o).run P w = r at h ⊢
 cases r with
 | ok x w' =>
  cases x <;> first
   | exact h
   | exact h.elim
   | exact ⟨fun e => (by rw [zdH] at e; cases e), zdI.2 h⟩
   | exact ⟨fun e => (by rw [zdH] at e; cases e), zjZ h⟩
 | halt x w' => cases x <;> first
  | exact h
  | exact h.elim
end
end Go.Proofs.YtbhoeanfnbkenaaGreatDoor
namespace Go.Proofs.YtbhoeanfnbkenaaGreatDoor
open Go.RowKit
section
variable {P : Program} {tt : Tys} {Hy : World → Prop} {X : World → (Nat → Prop) → (Nat → O) → (Nat → Value) → Prop} {cls : Nat → Nat} {B : Nat} {St : Nat → Prop} {Dp : List Deferred → Prop} {w0 w : World} {s : S} {ι : Nat → Value} {a : Act}
def Sim (Hy : World → Prop) (X : World → (Nat → Prop) → (Nat → O) → (Nat → Value) → Prop) (B : Nat) (St : Nat → Prop) (w0 : World) (Dp : List Deferred → Prop) (K : S → Prop) (K' : Act → World → Prop) : Prop := ∀ s ι a w, Rel Hy X B St w0 Dp s ι a w → K s → K' a w
theorem Ra.tup0 {w : World} {D : Nat → Prop} {o : Nat → O} {ι : Nat → Value} {v : Value} (h : Ra w D o ι v (.tup [])) : ∃ cs, v = .tuple cs := by
 cases h
 exact ⟨_, rfl⟩
theorem zgW {o : Oper} {K : S → Prop} (hk : op1 P Hy tt cls o s K) : ∀ c, o.op ≠ .defer c := fun c e => by
 unfold op1 at hk
 rw [e] at hk
 exact hk.elim
theorem zed {ro : Option Nat} {n : Nat} (hT : Tys.ok P tt) (h : Rel Hy X B St w0 Dp s ι a w) {Q : Exit → Act → World → Prop} {ops : Array Oper} {i : Nat} {o : Oper} (ho : ops[i]? = some o) {K : S → Prop} {K' : Act → World → Prop} (hs : Sim Hy X B St w0 Dp K K')
  (hk : opK P Hy tt cls ops.toList o s K) : wpOpIn (FW ro) n P ops Q i K' a w := by
 unfold wpOpIn
 simp only [ho]
 unfold opK at hk
 split at hk
 ·rename_i hg
  rw [if_pos (by simp [Region.wanted, hg])]
  exact zcI (zgW hk) (zgV hT h hs hk)
 ·rename_i g want hg
  split at hk
  ·rename_i t ht
   obtain ⟨htn, hk⟩ := hk
   have ht2 : (ops[g]?).bind (·.dst) = some t := by simpa using ht
   have hl : t < a.tmps.size := by rw [h.sz]; exact htn
   have htm := h.tm t _ (Array.getElem?_eq_getElem hl)
   split at hk
   ·rename_i q e
    rw [e] at htm
    have hq := htm.bool
    have hy : yielded ops a.tmps g = some q := by
     unfold yielded
     simp only [ht2, Option.bind_some, Array.getElem?_eq_getElem hl, hq]
    by_cases hw : q = want
    ·rw [if_pos (by simp [Region.wanted, hg, hy, hw])]
     exact zcI (zgW (hk.1 hw)) (zgV hT h hs (hk.1 hw))
    ·rw [if_neg (by simp [Region.wanted, hg, hy, hw])]
     refine ⟨fun f _ => zc7 f, ?_⟩
     refine hs _ ι _ _ (h.pure _ _ _ (fun _ => .tup #[] [] (fun _ => undef) rfl (fun j hj => absurd hj (Nat.not_lt_zero j)) (fun j x hx => by simp at hx))) (hk.2 ?_)
     cases q <;> cases want <;> simp_all
   ·rename_i e
    rw [e] at htm
    have hy : yielded ops a.tmps g = none := by
     unfold yielded
     simp only [ht2, Option.bind_some, Array.getElem?_eq_getElem hl]
     obtain ⟨cs, hv⟩ := htm.tup0
     simp only [hv]
    rw [if_neg (by simp [Region.wanted, hg, hy])]
    refine ⟨fun f _ => zc7 f, ?_⟩
    exact hs _ ι _ _ (h.pure _ _ _ (fun _ => .tup #[] [] (fun _ => undef) rfl (fun j hj => absurd hj (Nat.not_lt_zero j)) (fun j x hx => by simp at hx))) hk
   ·exact hk.elim
  ·exact hk.elim
end
end Go.Proofs.YtbhoeanfnbkenaaGreatDoor
namespace Go.Proofs.YtbhoeanfnbkenaaGreatDoor
open Go.RowKit
def A.id1 : A → List Nat
 | .ptr id _ _ => [id]
 | .row id _ => [id]
 | .rp id _ _ _ _ => [id]
 | _ => []
def A.id2 : A → List Nat
 | .ag l => l.flatMap A.id1
 | x => x.id1
def A.ids : A → List Nat
 | .ag l => l.flatMap A.id1
 | .fn _ l m => (l ++ m).flatMap A.id2
 | x => x.id1
theorem A.id2_sub {x : A} {i : Nat} (h : i ∈ x.id2) : i ∈ x.ids := by
 cases x <;> first | exact h | (simp [A.id2, A.id1] at h)
def S.ids (s : S) (l : List Operand) : List Nat := l.flatMap fun x => (s.ev x).ids
section
variable {P : Program} {tt : Tys} {Hy : World → Prop} {cls : Nat → Nat} {s : S}
structure Agr (l : List Operand) (s s2 : S) : Prop where
 ev : ∀ x ∈ l, s2.ev x = s.ev x
 o : ∀ id ∈ s.ids l, s2.o id = s.o id
theorem Agr.at_ {l : List Operand} {s2 : S} (h : Agr l s s2) {x : Operand} (hx : x ∈ l) {id : Nat} (hid : id ∈ (s.ev x).ids) : s2.o id = s.o id := h.o id (List.mem_flatMap.2 ⟨x, hx, hid⟩)
theorem zj0 {b : Builtin} {args : List Operand} {tys : List TypeId} {K : A → Prop} (hk : biK tt b (args.map s.ev) tys s K) : ∃ y, K y ∧ ∀ (s2 : S) (K2 : A → Prop), Agr args s s2 → K2 y → biK tt b (args.map s2.ev) tys s2 K2 := by
 have map2 : ∀ s2, Agr args s s2 → args.map s2.ev = args.map s.ev := fun s2 h => List.map_congr_left (fun x hx => h.ev x hx)
 unfold biK at hk
 split at hk
 ·rename_i x t hargs
  obtain ⟨x0, rfl, rfl⟩ : ∃ x0, args = [x0] ∧ s.ev x0 = x := by
   match args, hargs with
   | [x0], e => exact ⟨x0, rfl, by simpa using e⟩
  obtain ⟨d, hd, hk⟩ := zE hk
  split at hk
  ·rename_i e1 e2
   refine ⟨_, hk, fun s2 K2 hA h2 => ?_⟩
   rw [map2 s2 hA, List.map_cons, List.map_nil]
   simp only [biK, hd, zF, e1, e2]
   exact h2
  ·rename_i e1 e2
   refine ⟨_, hk, fun s2 K2 hA h2 => ?_⟩
   rw [map2 s2 hA, List.map_cons, List.map_nil]
   simp only [biK, hd, zF, e1, e2]
   exact h2
  ·rename_i e1 e2
   refine ⟨_, hk, fun s2 K2 hA h2 => ?_⟩
   rw [map2 s2 hA, List.map_cons, List.map_nil]
   simp only [biK, hd, zF, e1, e2]
   exact h2
  ·rename_i id g e1 e2
   obtain ⟨hg, hk⟩ := hk
   have hid : ∀ s2, Agr [x0] s s2 → s2.o id = s.o id := fun s2 hA => hA.at_ (x := x0) (by simp) (by rw [e2]; simp [A.ids, A.id1])
   split at hk
   ·rename_i ty' z l hkk
    refine ⟨_, hk, fun s2 K2 hA h2 => ?_⟩
    rw [map2 s2 hA, List.map_cons, List.map_nil]
    simp only [biK, hd, zF, e1, e2, hid s2 hA, hkk]
    exact ⟨hg, h2⟩
   ·rename_i ty' z l hkk
    refine ⟨_, hk, fun s2 K2 hA h2 => ?_⟩
    rw [map2 s2 hA, List.map_cons, List.map_nil]
    simp only [biK, hd, zF, e1, e2, hid s2 hA, hkk]
    exact ⟨hg, h2⟩
   ·rename_i l hkk
    refine ⟨_, hk, fun s2 K2 hA h2 => ?_⟩
    rw [map2 s2 hA, List.map_cons, List.map_nil]
    simp only [biK, hd, zF, e1, e2, hid s2 hA, hkk]
    exact ⟨hg, h2⟩
   ·exact hk.elim
  ·exact hk.elim
 ·rename_i x t hargs
  obtain ⟨x0, rfl, rfl⟩ : ∃ x0, args = [x0] ∧ s.ev x0 = x := by
   match args, hargs with
   | [x0], e => exact ⟨x0, rfl, by simpa using e⟩
  obtain ⟨d, hd, hk⟩ := zE hk
  split at hk
  ·rename_i e1 e2
   refine ⟨_, hk, fun s2 K2 hA h2 => ?_⟩
   rw [map2 s2 hA, List.map_cons, List.map_nil]
   simp only [biK, hd, zF, e1, e2]
   exact h2
  ·exact hk.elim
 ·rename_i x y hargs
  obtain ⟨x0, y0, rfl, rfl, rfl⟩ : ∃ x0 y0, args = [x0, y0] ∧ s.ev x0 = x ∧ s.ev y0 = y := by
   match args, hargs with
   | [x0, y0], e => exact ⟨x0, y0, rfl, by simpa using e⟩
  split at hk
  ·rename_i e1 e2
   obtain ⟨rfl, hk⟩ := hk
   refine ⟨_, hk, fun s2 K2 hA h2 => ?_⟩
   rw [map2 s2 hA]
   simp only [List.map_cons, List.map_nil, biK, e1, e2]
   exact ⟨trivial, h2⟩
  ·exact hk.elim
 ·rename_i x y hargs
  obtain ⟨x0, y0, rfl, rfl, rfl⟩ : ∃ x0 y0, args = [x0, y0] ∧ s.ev x0 = x ∧ s.ev y0 = y := by
   match args, hargs with
   | [x0, y0], e => exact ⟨x0, y0, rfl, by simpa using e⟩
  split at hk
  ·rename_i e1 e2
   obtain ⟨rfl, hk⟩ := hk
   refine ⟨_, hk, fun s2 K2 hA h2 => ?_⟩
   rw [map2 s2 hA]
   simp only [List.map_cons, List.map_nil, biK, e1, e2]
   exact ⟨trivial, h2⟩
  ·exact hk.elim
 ·exact hk.elim
theorem zj1 {x : A} {k : IntKind} {l : List Int} (h : kyA x = some (.a k l)) : (∃ m, x = .t (.ag m)) ∨ ∃ m, x = .ag m := by
 unfold kyA at h
 split at h
 ·cases h
 ·cases h
 ·exact .inl ⟨_, rfl⟩
 ·exact .inr ⟨_, rfl⟩
 ·cases h
theorem zj2 {op : BinOp} {ty : TypeId} {x y : A} {K : A → Prop} (hk : zcn tt op ty x y K) : ∃ z, K z ∧ ∀ K2 : A → Prop, K2 z → zb7 tt op ty x y K2 := by
 obtain ⟨d, hd, hk⟩ := zE hk
 split at hk
 ·rename_i n e he
  obtain ⟨de, hde, hk⟩ := zE hk
  split at hk
  ·rename_i q hq
   obtain ⟨hs, hk1⟩ := hk
   obtain ⟨ka, hka, hk2⟩ := zE hk1
   obtain ⟨kb, hkb, hk3⟩ := zE hk2
   clear hk1 hk2
   have fin : ∀ (k : IntKind) (l : List Int), kyA x = some (.a k l) → ∀ K2 : A → Prop, zcn tt op ty x y K2 → zb7 tt op ty x y K2 := fun k l hx K2 h2 => by
    rcases zj1 hx with ⟨m, rfl⟩ | ⟨m, rfl⟩
    ·exact h2
    ·exact h2
   cases ka <;> first | exact hk3.elim | skip
   cases kb <;> first | exact hk3.elim | skip
   rename_i k l k' m
   obtain ⟨h1, hk4⟩ := hk3
   cases op
   case eql => exact ⟨_, hk4, fun K2 h2 => fin k l hka K2 (by simp only [zcn, hd, zF, he, hde, hq, hka, hkb]; exact ⟨hs, h1, h2⟩)⟩
   case neq => exact ⟨_, hk4, fun K2 h2 => fin k l hka K2 (by simp only [zcn, hd, zF, he, hde, hq, hka, hkb]; exact ⟨hs, h1, h2⟩)⟩
   all_goals exact hk4.elim
  ·exact hk.elim
 ·rename_i fs he
  obtain ⟨heq, hk⟩ := hk
  obtain ⟨l, hl, hk⟩ := zE hk
  obtain ⟨m, hm, hk⟩ := zE hk
  obtain ⟨b, hb, hk⟩ := zE hk
  have fin : ∀ K2 : A → Prop, zcn tt op ty x y K2 → zb7 tt op ty x y K2 := fun K2 h2 => by
   have : (∃ m, x = .t (.ag m)) ∨ ∃ m, x = .ag m := by
    unfold agA at hl
    split at hl
    ·exact .inl ⟨_, rfl⟩
    ·exact .inr ⟨_, rfl⟩
    ·cases hl
   rcases this with ⟨m, rfl⟩ | ⟨m, rfl⟩
   ·exact h2
   ·exact h2
  cases op
  case eql => exact ⟨_, hk, fun K2 h2 => fin K2 (by simp only [zcn, hd, zF, he, hl, hm, hb]; exact ⟨heq, h2⟩)⟩
  case neq => exact ⟨_, hk, fun K2 h2 => fin K2 (by simp only [zcn, hd, zF, he, hl, hm, hb]; exact ⟨heq, h2⟩)⟩
  all_goals exact hk.elim
 ·exact hk.elim
theorem zj3 {tt : Tys} {op : BinOp} {ty : TypeId} {x : A} {K : A → Prop} (hk : zc2 tt op ty x K) : ∃ z, K z ∧ ∀ K2 : A → Prop, K2 z → zc2 tt op ty x K2 := by
 unfold zc2 at hk ⊢
 obtain ⟨d, hd, hk1⟩ := zE hk
 clear hk
 have hki : d.k = .iface := by
  revert hk1
  cases d.k <;> intro hk <;> first | rfl | exact False.elim hk
 rw [hki] at hk1
 simp only [hd, zF, hki]
 cases x with
 | t z =>
  cases z with
  | ifc ty y =>
   cases op <;> first | exact False.elim hk1 | skip
   ·exact ⟨_, hk1, fun K2 h2 => h2⟩
   ·exact ⟨_, hk1, fun K2 h2 => h2⟩
  | nif =>
   cases op <;> first | exact False.elim hk1 | skip
   ·exact ⟨_, hk1, fun K2 h2 => h2⟩
   ·exact ⟨_, hk1, fun K2 h2 => h2⟩
  | _ => exact False.elim hk1
 | _ => exact False.elim hk1
theorem zj4 {op : BinOp} {ty : TypeId} {x y : A} {K : A → Prop} (hk : zb7 tt op ty x y K) : ∃ z, K z ∧ ∀ K2 : A → Prop, K2 z → zb7 tt op ty x y K2 := by
 unfold zb7 at hk
 split at hk
 ·rename_i k a k' b
  cases op
  case shl => exact ⟨_, hk.2.2, fun K2 h2 => ⟨hk.1, hk.2.1, h2⟩⟩
  case shr => exact ⟨_, hk.2, fun K2 h2 => ⟨hk.1, h2⟩⟩
  all_goals obtain ⟨rfl, hk⟩ := hk
  case add => exact ⟨_, hk.2, fun K2 h2 => ⟨rfl, hk.1, h2⟩⟩
  case sub => exact ⟨_, hk.2, fun K2 h2 => ⟨rfl, hk.1, h2⟩⟩
  case mul => exact ⟨_, hk.2, fun K2 h2 => ⟨rfl, hk.1, h2⟩⟩
  case quo => exact ⟨_, hk.2.2, fun K2 h2 => ⟨rfl, hk.1, hk.2.1, h2⟩⟩
  case rem => exact ⟨_, hk.2, fun K2 h2 => ⟨rfl, hk.1, h2⟩⟩
  case eql => exact ⟨_, hk, fun K2 h2 => ⟨rfl, h2⟩⟩
  case neq => exact ⟨_, hk, fun K2 h2 => ⟨rfl, h2⟩⟩
  case lss => exact ⟨_, hk, fun K2 h2 => ⟨rfl, h2⟩⟩
  case leq => exact ⟨_, hk, fun K2 h2 => ⟨rfl, h2⟩⟩
  case gtr => exact ⟨_, hk, fun K2 h2 => ⟨rfl, h2⟩⟩
  case geq => exact ⟨_, hk, fun K2 h2 => ⟨rfl, h2⟩⟩
  case and => exact ⟨_, hk, fun K2 h2 => ⟨rfl, h2⟩⟩
  case or => exact ⟨_, hk, fun K2 h2 => ⟨rfl, h2⟩⟩
  case xor => exact ⟨_, hk, fun K2 h2 => ⟨rfl, h2⟩⟩
  case andNot => exact ⟨_, hk, fun K2 h2 => ⟨rfl, h2⟩⟩
  all_goals exact hk.elim
 ·cases op
  case eql => exact ⟨_, hk, fun K2 h2 => h2⟩
  case neq => exact ⟨_, hk, fun K2 h2 => h2⟩
  case add => exact ⟨_, hk.2, fun K2 h2 => ⟨hk.1, h2⟩⟩
  case lss => exact ⟨_, hk, fun K2 h2 => h2⟩
  case leq => exact ⟨_, hk, fun K2 h2 => h2⟩
  case gtr => exact ⟨_, hk, fun K2 h2 => h2⟩
  case geq => exact ⟨_, hk, fun K2 h2 => h2⟩
  all_goals exact hk.elim
 ·obtain ⟨d, hd, hdk, hk⟩ := zE hk
  have r : ∀ {q : Prop}, q → zF (tt ty) fun d => d.k = .bool ∧ q := fun {q} hq => by
   rw [hd]
   exact ⟨hdk, hq⟩
  cases op
  case eql => exact ⟨_, hk, fun K2 h2 => r h2⟩
  case neq => exact ⟨_, hk, fun K2 h2 => r h2⟩
  all_goals exact hk.elim
 ·exact zj2 hk
theorem zgX {op : Op} {K : A → Prop} (hk : Pk tt op s K) : ∃ y, K y ∧ ∀ (s2 : S) (K2 : A → Prop), Agr op.operands.toList s s2 → K2 y → Pk tt op s2 K2 := by
 cases op
 case move x => exact ⟨_, hk, fun s2 K2 hA h2 => by simp only [Pk]; rw [hA.ev x (by simp [Op.operands])]; exact h2⟩
 case assign x => exact ⟨_, hk, fun s2 K2 hA h2 => by simp only [Pk]; rw [hA.ev x (by simp [Op.operands])]; exact h2⟩
 case pick c x y =>
  simp only [Pk] at hk
  split at hk
  ·rename_i q e
   cases q
   ·refine ⟨_, hk.2 rfl, fun s2 K2 hA h2 => ?_⟩
    simp only [Pk]
    rw [hA.ev c (by simp [Op.operands]), hA.ev y (by simp [Op.operands]), e]
    exact ⟨fun h => (by cases h), fun _ => h2⟩
   ·refine ⟨_, hk.1 rfl, fun s2 K2 hA h2 => ?_⟩
    simp only [Pk]
    rw [hA.ev c (by simp [Op.operands]), hA.ev x (by simp [Op.operands]), e]
    exact ⟨fun _ => h2, fun h => (by cases h)⟩
  ·exact hk.elim
 case load ty x =>
  obtain ⟨d, hd, hk⟩ := zE hk
  have hx : x ∈ (Op.load ty x).operands.toList := by simp [Op.operands]
  split at hk
  ·rename_i id g off e
   obtain ⟨hg, hk⟩ := hk
   have hid : ∀ s2, Agr (Op.load ty x).operands.toList s s2 → s2.o id = s.o id := fun s2 hA => hA.at_ hx (by rw [e]; simp [A.ids, A.id1])
   split at hk
   ·rename_i ty' l hkk
    obtain ⟨y, hy, hk⟩ := zE hk
    refine ⟨y, hk, fun s2 K2 hA h2 => ?_⟩
    simp only [Pk, hd, zF, hA.ev x hx, e, hid s2 hA, hkk, hy]
    exact ⟨hg, h2⟩
   ·exact hk.elim
  ·rename_i l e
   obtain ⟨y, hy, hk⟩ := zE hk
   refine ⟨y, hk, fun s2 K2 hA h2 => ?_⟩
   simp only [Pk, hd, zF, hA.ev x hx, e, hy]
   exact h2
  ·rename_i id g z i off e
   obtain ⟨hg, hk⟩ := hk
   have hid : ∀ s2, Agr (Op.load ty x).operands.toList s s2 → s2.o id = s.o id := fun s2 hA => hA.at_ hx (by rw [e]; simp [A.ids, A.id1])
   split at hk
   ·rename_i ty' z' l hkk
    obtain ⟨hz, hk⟩ := hk
    obtain ⟨c, hc, hk⟩ := zE hk
    obtain ⟨y, hy, hk⟩ := zE hk
    refine ⟨y, hk, fun s2 K2 hA h2 => ?_⟩
    simp only [Pk, hd, zF, hA.ev x hx, e, hid s2 hA, hkk, hc, hy]
    exact ⟨hg, hz, h2⟩
   ·rename_i ty' z' l hkk
    obtain ⟨hz, hk⟩ := hk
    obtain ⟨c, hc, hk⟩ := zE hk
    obtain ⟨y, hy, hk⟩ := zE hk
    refine ⟨y, hk, fun s2 K2 hA h2 => ?_⟩
    simp only [Pk, hd, zF, hA.ev x hx, e, hid s2 hA, hkk, hc, hy]
    exact ⟨hg, hz, h2⟩
   ·exact hk.elim
  ·exact hk.elim
 case fieldAddr st x f =>
  obtain ⟨d, hd, hk⟩ := zE hk
  have hx : x ∈ (Op.fieldAddr st x f).operands.toList := by simp [Op.operands]
  split at hk
  ·rename_i fs e
   obtain ⟨p, hp, hk⟩ := zE hk
   obtain ⟨de, hde, hk⟩ := zE hk
   obtain ⟨hz, hk⟩ := hk
   split at hk
   ·rename_i id g off e2
    obtain ⟨hg, hc, hk⟩ := hk
    refine ⟨_, hk, fun s2 K2 hA h2 => ?_⟩
    have hid : s2.o id = s.o id := hA.at_ hx (by rw [e2]; simp [A.ids, A.id1])
    simp only [Pk, hd, zF, e, hp, hde, hA.ev x hx, e2, hid]
    exact ⟨hz, hg, hc, h2⟩
   ·rename_i l e2
    obtain ⟨hle, hk⟩ := hk
    refine ⟨_, hk, fun s2 K2 hA h2 => ?_⟩
    simp only [Pk, hd, zF, e, hp, hde, hA.ev x hx, e2]
    exact ⟨hz, hle, h2⟩
   ·rename_i id g z i off e2
    obtain ⟨hg, hc, hk⟩ := hk
    refine ⟨_, hk, fun s2 K2 hA h2 => ?_⟩
    have hid : s2.o id = s.o id := hA.at_ hx (by rw [e2]; simp [A.ids, A.id1])
    simp only [Pk, hd, zF, e, hp, hde, hA.ev x hx, e2, hid]
    exact ⟨hz, hg, hc, h2⟩
   ·exact hk.elim
  ·exact hk.elim
 case field st x f =>
  obtain ⟨d, hd, hk⟩ := zE hk
  have hx : x ∈ (Op.field st x f).operands.toList := by simp [Op.operands]
  split at hk
  ·rename_i fs e
   obtain ⟨p, hp, hk⟩ := zE hk
   obtain ⟨de, hde, hk⟩ := zE hk
   split at hk
   ·rename_i l e2
    obtain ⟨y, hy, hk⟩ := zE hk
    refine ⟨y, hk, fun s2 K2 hA h2 => ?_⟩
    simp only [Pk, hd, zF, e, hp, hde, hA.ev x hx, e2, hy]
    exact h2
   ·rename_i l e2
    obtain ⟨y, hy, hk⟩ := zE hk
    refine ⟨y, hk, fun s2 K2 hA h2 => ?_⟩
    simp only [Pk, hd, zF, e, hp, hde, hA.ev x hx, e2, hy]
    exact h2
   ·exact hk.elim
  ·exact hk.elim
 case unOp u ty x =>
  cases u
  case not =>
   simp only [Pk] at hk
   split at hk
   ·rename_i q e
    refine ⟨_, hk, fun s2 K2 hA h2 => ?_⟩
    simp only [Pk, hA.ev x (by simp [Op.operands]), e]
    exact h2
   ·exact hk.elim
  case neg =>
   simp only [Pk] at hk
   split at hk
   ·rename_i k n e
    refine ⟨_, hk, fun s2 K2 hA h2 => ?_⟩
    simp only [Pk, hA.ev x (by simp [Op.operands]), e]
    exact h2
   ·exact hk.elim
  all_goals exact hk.elim
 case extract x i =>
  simp only [Pk] at hk
  split at hk
  ·rename_i l e
   obtain ⟨y, hy, hk⟩ := zE hk
   refine ⟨y, hk, fun s2 K2 hA h2 => ?_⟩
   simp only [Pk, hA.ev x (by simp [Op.operands]), e, hy, zF]
   exact h2
  ·exact hk.elim
 case binOp op ty x y ty' =>
  simp only [Pk] at hk
  split at hk
  ·rename_i e
   obtain ⟨z, hz, h3⟩ := zj3 hk
   refine ⟨z, hz, fun s2 K2 hA h2 => ?_⟩
   simp only [Pk, e]
   rw [hA.ev x (by simp [Op.operands])]
   exact h3 K2 h2
  ·rename_i e
   obtain ⟨z, hz, h3⟩ := zj4 hk
   refine ⟨z, hz, fun s2 K2 hA h2 => ?_⟩
   simp only [Pk, e]
   rw [hA.ev x (by simp [Op.operands]), hA.ev y (by simp [Op.operands])]
   exact h3 K2 h2
 case makeInterface ty x =>
  simp only [Pk] at hk
  obtain ⟨d, hd, hc, hk⟩ := zE hk
  obtain ⟨y, hy, hk⟩ := zE hk
  refine ⟨_, hk, fun s2 K2 hA h2 => ?_⟩
  simp only [Pk, hd, zF, hA.ev x (by simp [Op.operands]), hy]
  exact ⟨hc, h2⟩
 case typeAssert x xT asserted ok =>
  simp only [Pk] at hk
  obtain ⟨d, hd, hc, hk1⟩ := zE hk
  clear hk
  cases ok with
  | true => exact False.elim hk1
  | false =>
   cases hxe : s.ev x with
   | t z =>
    rw [hxe] at hk1
    cases z with
    | ifc ty y =>
     obtain ⟨hty, hk2⟩ := hk1
     refine ⟨_, hk2, fun s2 K2 hA h2 => ?_⟩
     simp only [Pk, hd, zF, hA.ev x (by simp [Op.operands]), hxe]
     exact ⟨hc, hty, h2⟩
    | _ => exact False.elim hk1
   | _ => rw [hxe] at hk1; exact False.elim hk1
 case index ty x ix =>
  obtain ⟨d, hd, hk⟩ := zE hk
  split at hk
  ·rename_i e
   split at hk
   ·rename_i b k n e1 e2
    obtain ⟨h0, hk⟩ := hk
    obtain ⟨c, hc, hk⟩ := zE hk
    refine ⟨_, hk, fun s2 K2 hA h2 => ?_⟩
    simp only [Pk, hd, zF, e, hA.ev x (by simp [Op.operands]), hA.ev ix (by simp [Op.operands]), e1, e2, hc]
    exact ⟨h0, h2⟩
   ·exact hk.elim
  ·exact hk.elim
 case convert src dst x =>
  obtain ⟨d, hd, hk⟩ := zE hk
  obtain ⟨e, he, hk⟩ := zE hk
  split at hk
  ·rename_i k0 k k' n e1 e2 e3
   obtain ⟨he0, hr, hk⟩ := hk
   refine ⟨_, hk, fun s2 K2 hA h2 => ?_⟩
   simp only [Pk, hd, he, zF, hA.ev x (by simp [Op.operands]), e1, e2, e3]
   exact ⟨he0, hr, h2⟩
  ·exact hk.elim
 case slice ty x lo hi mx =>
  rcases lo with _ | lo <;> rcases hi with _ | hi <;> rcases mx with _ | mx <;> simp only [Pk] at hk
  obtain ⟨d, hd, hk⟩ := zE hk
  have hx : x ∈ (Op.slice ty x none (some hi) none).operands.toList := by simp [Op.operands]
  have hh : hi ∈ (Op.slice ty x none (some hi) none).operands.toList := by simp [Op.operands]
  split at hk
  ·rename_i el e
   obtain ⟨de, hde, hk⟩ := zE hk
   split at hk
   ·rename_i k n e2
    split at hk
    ·rename_i l e3
     refine ⟨_, hk.2, fun s2 K2 hA h2 => ?_⟩
     simp only [Pk, hd, zF, e, hde, hA.ev x hx, hA.ev hi hh, e2, e3]
     exact ⟨hk.1, h2⟩
    ·exact hk.elim
   ·exact hk.elim
  ·exact hk.elim
 case call c =>
  obtain ⟨callee, args, tys⟩ := c
  cases callee
  case builtin b =>
   simp only [Pk] at hk
   obtain ⟨y, h1, h2⟩ := zj0 hk
   refine ⟨y, h1, fun s2 K2 hA h3 => ?_⟩
   simp only [Pk]
   have he : (Op.call ⟨.builtin b, args, tys⟩).operands.toList = args.toList := by simp [Op.operands, Call.operands]
   rw [he] at hA
   exact h2 s2 K2 hA h3
  all_goals exact hk.elim
 case makeFunc f first cap =>
  simp only [Pk] at hk
  split at hk
  ·rename_i f
   refine ⟨_, hk, fun s2 K2 hA h2 => ?_⟩
   simp only [Pk]
   have e1 : cap.toList.map s2.ev = cap.toList.map s.ev := List.map_congr_left (fun x hx => hA.ev x (by simp [Op.operands]; right; simpa using hx))
   have e2 : first.toList.map s2.ev = first.toList.map s.ev := List.map_congr_left (fun x hx => hA.ev x (by simp [Op.operands]; left; simpa using hx))
   rw [e1, e2]
   exact h2
  ·exact hk.elim
 case nilCheck x =>
  simp only [Pk] at hk
  have hx : x ∈ (Op.nilCheck x).operands.toList := by simp [Op.operands]
  split at hk
  ·rename_i id g off e
   obtain ⟨hg, hk⟩ := hk
   refine ⟨_, hk, fun s2 K2 hA h2 => ?_⟩
   simp only [Pk, hA.ev x hx, e, hA.at_ hx (show id ∈ (s.ev x).ids by rw [e]; simp [A.ids, A.id1])]
   exact ⟨hg, h2⟩
  ·rename_i l e
   refine ⟨_, hk, fun s2 K2 hA h2 => ?_⟩
   simp only [Pk, hA.ev x hx, e]
   exact h2
  ·rename_i id g z i off e
   obtain ⟨hg, hk⟩ := hk
   refine ⟨_, hk, fun s2 K2 hA h2 => ?_⟩
   simp only [Pk, hA.ev x hx, e, hA.at_ hx (show id ∈ (s.ev x).ids by rw [e]; simp [A.ids, A.id1])]
   exact ⟨hg, h2⟩
  ·rename_i f l e
   refine ⟨_, hk, fun s2 K2 hA h2 => ?_⟩
   simp only [Pk, hA.ev x hx, e]
   exact h2
  ·exact hk.elim
 case indexAddr ty x ix =>
  obtain ⟨d, hd, hk⟩ := zE hk
  have hx : x ∈ (Op.indexAddr ty x ix).operands.toList := by simp [Op.operands]
  have hix : ix ∈ (Op.indexAddr ty x ix).operands.toList := by simp [Op.operands]
  split at hk
  ·rename_i et e
   obtain ⟨de, hde, hk⟩ := zE hk
   split at hk
   ·rename_i k n e1
    obtain ⟨h0, hk⟩ := hk
    split at hk
    ·rename_i l e2
     obtain ⟨c, hc, hk⟩ := zE hk
     obtain ⟨hcl, hk⟩ := hk
     refine ⟨_, hk, fun s2 K2 hA h2 => ?_⟩
     simp only [Pk, hd, zF, e, hde, hA.ev x hx, hA.ev ix hix, e1, e2, hc]
     exact ⟨h0, hcl, h2⟩
    ·rename_i id g e2
     obtain ⟨hg, hk⟩ := hk
     have hid : ∀ s2, Agr (Op.indexAddr ty x ix).operands.toList s s2 → s2.o id = s.o id := fun s2 hA => hA.at_ hx (by rw [e2]; simp [A.ids, A.id1])
     split at hk
     ·rename_i ty' z l hkk
      obtain ⟨hlt, hz, hk⟩ := hk
      refine ⟨_, hk, fun s2 K2 hA h2 => ?_⟩
      simp only [Pk, hd, zF, e, hde, hA.ev x hx, hA.ev ix hix, e1, e2, hid s2 hA, hkk]
      exact ⟨h0, hg, hlt, hz, h2⟩
     ·rename_i ty' z l hkk
      obtain ⟨hlt, hz, hk⟩ := hk
      refine ⟨_, hk, fun s2 K2 hA h2 => ?_⟩
      simp only [Pk, hd, zF, e, hde, hA.ev x hx, hA.ev ix hix, e1, e2, hid s2 hA, hkk]
      exact ⟨h0, hg, hlt, hz, h2⟩
     ·rename_i l hkk
      obtain ⟨c, hc, hk⟩ := zE hk
      obtain ⟨hcl, hk⟩ := hk
      refine ⟨_, hk, fun s2 K2 hA h2 => ?_⟩
      simp only [Pk, hd, zF, e, hde, hA.ev x hx, hA.ev ix hix, e1, e2, hid s2 hA, hkk, hc]
      exact ⟨h0, hg, hcl, h2⟩
     ·exact hk.elim
    ·exact hk.elim
   ·exact hk.elim
  ·rename_i m et e
   obtain ⟨de, hde, hk⟩ := zE hk
   split at hk
   ·rename_i k n e1
    obtain ⟨h0, hk⟩ := hk
    split at hk
    ·rename_i id g off e2
     obtain ⟨hg, hc, hk⟩ := hk
     refine ⟨_, hk, fun s2 K2 hA h2 => ?_⟩
     have hid : s2.o id = s.o id := hA.at_ hx (by rw [e2]; simp [A.ids, A.id1])
     simp only [Pk, hd, zF, e, hde, hA.ev x hx, hA.ev ix hix, e1, e2, hid]
     exact ⟨h0, hg, hc, h2⟩
    ·rename_i l e2
     obtain ⟨hle, hk⟩ := hk
     refine ⟨_, hk, fun s2 K2 hA h2 => ?_⟩
     simp only [Pk, hd, zF, e, hde, hA.ev x hx, hA.ev ix hix, e1, e2]
     exact ⟨h0, hle, h2⟩
    ·rename_i id g z i off e2
     obtain ⟨hg, hc, hk⟩ := hk
     refine ⟨_, hk, fun s2 K2 hA h2 => ?_⟩
     have hid : s2.o id = s.o id := hA.at_ hx (by rw [e2]; simp [A.ids, A.id1])
     simp only [Pk, hd, zF, e, hde, hA.ev x hx, hA.ev ix hix, e1, e2, hid]
     exact ⟨h0, hg, hc, h2⟩
    ·exact hk.elim
   ·exact hk.elim
  ·exact hk.elim
 all_goals exact hk.elim
end
end Go.Proofs.YtbhoeanfnbkenaaGreatDoor
namespace Go.Proofs.YtbhoeanfnbkenaaGreatDoor
open Go.RowKit
def upd (s : S) (up : List (Nat × O)) (dst : Option Nat) (y : A) : S := (up.foldl (fun s p => s.ob p.1 p.2) s).put dst y
def zb8 (cls : Nat → Nat) (dst : Option Nat) (s : S) (l : List Operand) : List Nat := match dst with
 | some d => cls d :: s.ids l
 | none => s.ids l
section
variable {P : Program} {tt : Tys} {Hy : World → Prop} {cls : Nat → Nat} {s : S}
theorem zgY {x : A} {o : Nat → O} {K : T → Ups → Prop} (hk : frz1 (zaD o) x K) : ∃ t up, K t up ∧ (∀ p ∈ up, p.1 ∈ x.id1) ∧ ∀ (o2 : Nat → O) (K2 : T → Ups → Prop), (∀ id ∈ x.id1, o2 id = o id) → K2 t up → frz1 (zaD o2) x K2 := by
 unfold frz1 at hk
 split at hk
 ·exact ⟨_, _, hk, fun _ h => (by cases h), fun o2 K2 _ h2 => h2⟩
 ·exact ⟨_, _, hk, fun _ h => (by cases h), fun o2 K2 _ h2 => h2⟩
 ·rename_i id g
  obtain ⟨hg, hk⟩ := hk
  have same : ∀ o2 : Nat → O, (∀ i ∈ (A.row id g).id1, o2 i = o i) → zaD o2 id = zaD o id := fun o2 h => by
   simp only [zaD, h id (by simp [A.id1])]
  split at hk
  ·rename_i ty z l hkk
   refine ⟨_, _, hk, fun p h => ?_, fun o2 K2 h h2 => ?_⟩
   ·obtain rfl := List.mem_singleton.1 h
    simp [A.id1]
   ·simp only [frz1, same o2 h, hkk]
    exact ⟨hg, h2⟩
  ·rename_i l hkk
   refine ⟨_, _, hk, fun _ h => (by cases h), fun o2 K2 h h2 => ?_⟩
   simp only [frz1, same o2 h, hkk]
   exact ⟨hg, h2⟩
  ·rename_i e
   exfalso
   simp only [zaD] at e
   split at e
   ·cases e
   ·rename_i hn
    exact hn _ _ _ e
  ·exact hk.elim
 ·exact hk.elim
theorem zgZ {o : Nat → O} : ∀ (l : List A) {K : List T → Ups → Prop}, frzC (zaD o) l K → ∃ ts up, K ts up ∧ (∀ p ∈ up, p.1 ∈ l.flatMap A.id1) ∧ ∀ (o2 : Nat → O) (K2 : List T → Ups → Prop), (∀ id ∈ l.flatMap A.id1, o2 id = o id) → K2 ts up → frzC (zaD o2) l K2
 | [], K, hk => ⟨_, _, hk, fun _ h => (by cases h), fun o2 K2 _ h2 => h2⟩
 | x :: l, K, hk => by
  obtain ⟨hl, hk⟩ := hk
  obtain ⟨t, i, hk, h1, h2⟩ := zgY hk
  obtain ⟨ts, is, hk, g1, g2⟩ := zgZ l hk
  refine ⟨_, _, hk, fun id hid => ?_, fun o2 K2 h hK => ?_⟩
  ·rw [List.flatMap_cons]
   rcases List.mem_append.1 hid with h | h
   ·exact List.mem_append_left _ (h1 id h)
   ·exact List.mem_append_right _ (g1 id h)
  ·rw [List.flatMap_cons] at h
   exact ⟨hl, h2 o2 _ (fun id hid => h id (List.mem_append_left _ hid)) (g2 o2 _ (fun id hid => h id (List.mem_append_right _ hid)) hK)⟩
theorem zg0 {x : A} {o : Nat → O} {K : T → Ups → Prop} (hk : frz (zaD o) x K) : ∃ t up, K t up ∧ (∀ p ∈ up, p.1 ∈ x.id2) ∧ ∀ (o2 : Nat → O) (K2 : T → Ups → Prop), (∀ id ∈ x.id2, o2 id = o id) → K2 t up → frz (zaD o2) x K2 := by
 unfold frz at hk
 split at hk
 ·rename_i l
  obtain ⟨ts, is, hk, g1, g2⟩ := zgZ l hk
  exact ⟨_, _, hk, g1, fun o2 K2 h h2 => g2 o2 _ h h2⟩
 ·exact ⟨_, _, hk, fun _ h => (by cases h), fun o2 K2 _ h2 => h2⟩
 ·exact ⟨_, _, hk, fun _ h => (by cases h), fun o2 K2 _ h2 => h2⟩
 ·obtain ⟨t, i, hk, h1, h2⟩ := zgY hk
  exact ⟨t, i, hk, h1, fun o2 K2 h h3 => h2 o2 _ h h3⟩
 ·exact hk.elim
theorem zfh {o : Nat → O} : ∀ (l : List A) {K : List T → Ups → Prop}, zbc (zaD o) l K → ∃ ts up, K ts up ∧ (∀ p ∈ up, p.1 ∈ l.flatMap A.id2) ∧ ∀ (o2 : Nat → O) (K2 : List T → Ups → Prop), (∀ id ∈ l.flatMap A.id2, o2 id = o id) → K2 ts up → zbc (zaD o2) l K2
 | [], K, hk => ⟨_, _, hk, fun _ h => (by cases h), fun o2 K2 _ h2 => h2⟩
 | x :: l, K, hk => by
  obtain ⟨t, i, hk, h1, h2⟩ := zg0 hk
  obtain ⟨ts, is, hk, g1, g2⟩ := zfh l hk
  refine ⟨_, _, hk, fun id hid => ?_, fun o2 K2 h hK => ?_⟩
  ·rw [List.flatMap_cons]
   rcases List.mem_append.1 hid with h | h
   ·exact List.mem_append_left _ (h1 id h)
   ·exact List.mem_append_right _ (g1 id h)
  ·rw [List.flatMap_cons] at h
   exact h2 o2 _ (fun id hid => h id (List.mem_append_left _ hid)) (g2 o2 _ (fun id hid => h id (List.mem_append_right _ hid)) hK)
theorem zj5 {o : Nat → O} (l : List A) {K : List T → Ups → Prop} (hk : zbc (zaD o) l K) : ∃ ts up, K ts up ∧ (∀ p ∈ up, p.1 ∈ l.flatMap A.ids) ∧ ∀ (o2 : Nat → O) (K2 : List T → Ups → Prop), (∀ id ∈ l.flatMap A.ids, o2 id = o id) → K2 ts up → zbc (zaD o2) l K2 := by
 obtain ⟨ts, up, h1, h2, h3⟩ := zfh l hk
 have sub : ∀ i, i ∈ l.flatMap A.id2 → i ∈ l.flatMap A.ids := fun i hi => by
  obtain ⟨x, hx, hi⟩ := List.mem_flatMap.1 hi
  exact List.mem_flatMap.2 ⟨x, hx, A.id2_sub hi⟩
 exact ⟨ts, up, h1, fun p hp => sub _ (h2 p hp), fun o2 K2 h hK => h3 o2 K2 (fun i hi => h i (sub i hi)) hK⟩
theorem zj6 {x : A} {o : Nat → O} {K : T → Ups → Prop} (hk : frz (zaD o) x K) : ∃ t up, K t up ∧ (∀ p ∈ up, p.1 ∈ x.ids) ∧ ∀ (o2 : Nat → O) (K2 : T → Ups → Prop), (∀ id ∈ x.ids, o2 id = o id) → K2 t up → frz (zaD o2) x K2 := by
 obtain ⟨t, up, h1, h2, h3⟩ := zg0 hk
 exact ⟨t, up, h1, fun p hp => A.id2_sub (h2 p hp), fun o2 K2 h hK => h3 o2 K2 (fun i hi => h i (A.id2_sub hi)) hK⟩
theorem zg1 {dst : Option Nat} {f : FuncId} {L : List A} {ids : List Nat} (hL : ∀ i ∈ L.flatMap A.id2, i ∈ ids) {K : S → Prop} (hk : zdN P Hy dst f L s K) :
  ∃ up y, (∀ p ∈ up, p.1 ∈ ids) ∧ K (upd s up dst y) ∧ ∀ (s2 : S) (K2 : S → Prop), (∀ i ∈ ids, s2.o i = s.o i) → K2 (upd s2 up dst y) → zdN P Hy dst f L s2 K2 := by
 obtain ⟨ts, up, ⟨r, hct, hk⟩, hi, hf⟩ := zfh _ hk
 by_cases hfl : r.all T.flat = true
 ·rw [if_pos hfl] at hk
  refine ⟨[], _, fun p hp => (by cases hp), hk, fun s2 K2 hA hK => ?_⟩
  exact hf _ _ (fun id hid => hA id (hL id hid)) ⟨r, hct, by rw [if_pos hfl]; exact hK⟩
 ·rw [if_neg hfl] at hk
  refine ⟨up, _, fun p hp => hL _ (hi p hp), hk, fun s2 K2 hA hK => ?_⟩
  refine hf _ _ (fun id hid => hA id (hL id hid)) ⟨r, hct, ?_⟩
  rw [if_neg hfl]
  exact hK
theorem zg2 {x : A} {o : Nat → O} {z : Nat} {K : List (List T) → Prop} (hk : zbY o z x K) : ∃ l, K l ∧ ∀ (o2 : Nat → O) (K2 : List (List T) → Prop), (∀ id ∈ x.ids, o2 id = o id) → K2 l → zbY o2 z x K2 := by
 unfold zbY at hk
 split at hk
 ·exact ⟨_, hk.2, fun o2 K2 _ h2 => ⟨hk.1, h2⟩⟩
 ·exact ⟨_, hk, fun o2 K2 _ h2 => h2⟩
 ·rename_i id g
  obtain ⟨hg, hk⟩ := hk
  split at hk
  ·rename_i ty z' l hkk
   refine ⟨_, hk.2, fun o2 K2 h h2 => ?_⟩
   have := h id (by simp [A.ids, A.id1])
   simp only [zbY, this, hkk]
   exact ⟨hg, hk.1, h2⟩
  ·rename_i l hkk
   refine ⟨_, hk.2, fun o2 K2 h h2 => ?_⟩
   have := h id (by simp [A.ids, A.id1])
   simp only [zbY, this, hkk]
   exact ⟨hg, hk.1, h2⟩
  ·exact hk.elim
 ·exact hk.elim
theorem zee {x : A} {o o2 : Nat → O} (h : ∀ id ∈ x.ids, o2 id = o id) : isA o2 x = isA o x := by
 unfold isA
 cases x <;> first | rfl | skip
 rename_i id g
 simp only [h id (by simp [A.ids, A.id1])]
theorem zj7 {x : A} {o : Nat → O} {z : Nat} {K : List (List A) → Prop} (hk : zcb o z x K) : ∃ l, K l ∧ ∀ (o2 : Nat → O) (K2 : List (List A) → Prop), (∀ id ∈ x.ids, o2 id = o id) → K2 l → zcb o2 z x K2 := by
 unfold zcb at hk
 split at hk
 ·rename_i hA
  split at hk
  ·rename_i id g
   obtain ⟨hg, hk⟩ := hk
   split at hk
   ·rename_i ty z' l hkk
    refine ⟨_, hk.2, fun o2 K2 h h2 => ?_⟩
    unfold zcb
    rw [zee h, hA]
    simp only [h id (by simp [A.ids, A.id1]), hkk]
    exact ⟨hg, hk.1, h2⟩
   ·exact hk.elim
  ·exact hk.elim
 ·rename_i hA
  obtain ⟨l, hk, hs⟩ := zg2 hk
  refine ⟨_, hk, fun o2 K2 h h2 => ?_⟩
  unfold zcb
  rw [zee h, hA]
  exact hs _ _ h h2
theorem zcJ {b : Option Operand} {d : Int} {K : Int → Prop} (hk : slB (b.map s.ev) d K) : ∃ n, K n ∧ ∀ (s2 : S) (K2 : Int → Prop), (∀ x, b = some x → s2.ev x = s.ev x) → K2 n → slB (b.map s2.ev) d K2 := by
 cases b with
 | none => exact ⟨d, hk, fun s2 K2 _ h2 => h2⟩
 | some x =>
  simp only [slB, Option.map_some] at hk
  split at hk
  ·rename_i e
   cases e
  ·rename_i k n e
   refine ⟨n, hk, fun s2 K2 h h2 => ?_⟩
   simp only [slB, Option.map_some, h x rfl, Option.some.inj e]
   exact h2
  ·exact hk.elim
theorem zj8 {dst : Option Nat} {op : Op} {K : S → Prop} (hk : Ek P Hy tt cls dst op s K) : ∃ up y, (∀ p ∈ up, p.1 ∈ zb8 cls dst s op.operands.toList) ∧ K (upd s up dst y) ∧
  ∀ (s2 : S) (K2 : S → Prop), Agr op.operands.toList s s2 → (∀ id ∈ zb8 cls dst s op.operands.toList, s2.o id = s.o id) → K2 (upd s2 up dst y) → Ek P Hy tt cls dst op s2 K2 := by
 have wm : ∀ {l : List Operand} {id : Nat}, id ∈ s.ids l → id ∈ zb8 cls dst s l := fun {l id} h => by
  unfold zb8
  split
  ·exact List.mem_cons_of_mem _ h
  ·exact h
 have wc : ∀ {l : List Operand} {d : Nat}, dst = some d → cls d ∈ zb8 cls dst s l := fun {l d} h => by
  subst h
  exact List.mem_cons_self
 cases op
 case box ty x =>
  obtain ⟨d, hd, hl, hk⟩ := zE hk
  refine ⟨[(cls d, _)], _, fun p hp => ?_, hk, fun s2 K2 hA hW h2 => ?_⟩
  ·obtain rfl := List.mem_singleton.1 hp
   exact wc hd
  ·have e1 := hA.ev x (by simp [Op.operands])
   have e2 := hW _ (wc (l := (Op.box ty x).operands.toList) hd)
   simp only [Ek, hd, zF, e1, e2]
   exact ⟨hl, by rw [← hd]; exact h2⟩
 case alloc ty =>
  obtain ⟨d, hd, hk⟩ := zE hk
  obtain ⟨td, htd, hl, hk⟩ := zE hk
  refine ⟨[(cls d, _)], _, fun p hp => ?_, hk, fun s2 K2 hA hW h2 => ?_⟩
  ·obtain rfl := List.mem_singleton.1 hp
   exact wc hd
  ·have e2 := hW _ (wc (l := (Op.alloc ty).operands.toList) hd)
   simp only [Ek, hd, zF, htd, e2]
   exact ⟨hl, by rw [← hd]; exact h2⟩
 case store ty x v =>
  obtain ⟨td, htd, hk⟩ := zE hk
  have hx : x ∈ (Op.store ty x v).operands.toList := by simp [Op.operands]
  have hv : v ∈ (Op.store ty x v).operands.toList := by simp [Op.operands]
  split at hk
  ·rename_i id g off e
   obtain ⟨hg, hk⟩ := hk
   have hmem : id ∈ s.ids (Op.store ty x v).operands.toList := List.mem_flatMap.2 ⟨x, hx, by rw [e]; simp [A.ids, A.id1]⟩
   split at hk
   ·rename_i ty' l hkk
    obtain ⟨h1, hk⟩ := hk
    refine ⟨[(id, _)], _, fun p hp => ?_, hk, fun s2 K2 hA hW h2 => ?_⟩
    ·obtain rfl := List.mem_singleton.1 hp
     exact wm hmem
    ·simp only [Ek, htd, zF, hA.ev x hx, hA.ev v hv, e, hA.o id hmem, hkk]
     exact ⟨hg, h1, h2⟩
   ·exact hk.elim
  ·rename_i id g z i off e
   obtain ⟨hg, hk⟩ := hk
   have hmem : id ∈ s.ids (Op.store ty x v).operands.toList := List.mem_flatMap.2 ⟨x, hx, by rw [e]; simp [A.ids, A.id1]⟩
   split at hk
   ·rename_i ty' z' l hkk
    obtain ⟨hz, hk⟩ := hk
    obtain ⟨t, ids, ⟨h0, h1, h3, hk⟩, hi, hf⟩ := zj6 hk
    obtain ⟨c, hc, h4, hk⟩ := zE hk
    refine ⟨[(id, _)], _, fun p hp => ?_, hk, fun s2 K2 hA hW h2 => ?_⟩
    ·obtain rfl := List.mem_singleton.1 hp
     exact wm hmem
    ·simp only [Ek, htd, zF, hA.ev x hx, hA.ev v hv, e, hA.o id hmem, hkk]
     refine ⟨hg, hz, hf _ _ (fun id hid => hA.at_ hv hid) ⟨h0, h1, h3, ?_⟩⟩
     rw [hc]
     exact ⟨h4, h2⟩
   ·rename_i ty' z' l hkk
    obtain ⟨hz, h1, hk⟩ := hk
    obtain ⟨c, hc, h4, hk⟩ := zE hk
    refine ⟨[(id, _)], _, fun p hp => ?_, hk, fun s2 K2 hA hW h2 => ?_⟩
    ·obtain rfl := List.mem_singleton.1 hp
     exact wm hmem
    ·simp only [Ek, htd, zF, hA.ev x hx, hA.ev v hv, e, hA.o id hmem, hkk]
     refine ⟨hg, hz, h1, ?_⟩
     rw [hc]
     exact ⟨h4, h2⟩
   ·exact hk.elim
  ·exact hk.elim
 case makeSlice ty n c =>
  obtain ⟨d, hd, hk⟩ := zE hk
  obtain ⟨td, htd, hk⟩ := zE hk
  have hn : n ∈ (Op.makeSlice ty n c).operands.toList := by simp [Op.operands]
  have hcc : c ∈ (Op.makeSlice ty n c).operands.toList := by simp [Op.operands]
  split at hk
  ·rename_i e he
   obtain ⟨de, hde, hk⟩ := zE hk
   split at hk
   ·rename_i k x k' m zv e1 e2 e3
    obtain ⟨h1, h2, h3, h4, h5, hk⟩ := hk
    split at hk
    ·rename_i t ht
     refine ⟨[(cls d, _)], _, fun p hp => ?_, hk, fun s2 K2 hA hW hK => ?_⟩
     ·obtain rfl := List.mem_singleton.1 hp
      exact wc hd
     ·have e4 := hW _ (wc (l := (Op.makeSlice ty n c).operands.toList) hd)
      simp only [Ek, hd, zF, htd, he, hde, hA.ev n hn, hA.ev c hcc, e1, e2, e3, ht, e4]
      exact ⟨h1, h2, h3, h4, h5, by rw [← hd]; exact hK⟩
    ·rename_i ht
     refine ⟨[(cls d, _)], _, fun p hp => ?_, hk, fun s2 K2 hA hW hK => ?_⟩
     ·obtain rfl := List.mem_singleton.1 hp
      exact wc hd
     ·have e4 := hW _ (wc (l := (Op.makeSlice ty n c).operands.toList) hd)
      simp only [Ek, hd, zF, htd, he, hde, hA.ev n hn, hA.ev c hcc, e1, e2, e3, ht, e4]
      exact ⟨h1, h2, h3, h4, h5, by rw [← hd]; exact hK⟩
    ·exact hk.elim
   ·exact hk.elim
  ·exact hk.elim
 case buildSlice ty n parts =>
  obtain ⟨d, hd, hk⟩ := zE hk
  obtain ⟨td, htd, hk⟩ := zE hk
  have hop : (Op.buildSlice ty n parts).operands.toList = parts.toList.map (·.2) := by simp [Op.operands]
  split at hk
  ·rename_i e he
   obtain ⟨de, hde, hk⟩ := zE hk
   by_cases hn0 : n = 0
   ·rw [if_pos hn0] at hk
    obtain ⟨hp, hk⟩ := hk
    refine ⟨[(cls d, _)], _, fun p hp => ?_, hk, fun s2 K2 hA hW hK => ?_⟩
    ·obtain rfl := List.mem_singleton.1 hp
     exact wc hd
    ·have e2 := hW _ (wc (l := (Op.buildSlice ty n parts).operands.toList) hd)
     simp only [Ek, hd, zF, htd, he, hde]
     rw [if_pos hn0, e2, ← hd]
     exact ⟨hp, hK⟩
   rw [if_neg hn0] at hk
   obtain ⟨hc, hk⟩ := hk
   have e3 : ∀ s2, Agr (Op.buildSlice ty n parts).operands.toList s s2 → (parts.toList.map fun p => s2.ev p.2) = parts.toList.map fun p => s.ev p.2 := fun s2 hA => List.map_congr_left (fun p hp => hA.ev p.2 (by rw [hop]; exact List.mem_map.2 ⟨p, hp, rfl⟩))
   have e4 : ∀ s2, Agr (Op.buildSlice ty n parts).operands.toList s s2 → (parts.toList.map fun p => z7 (s2.ev p.2)) = parts.toList.map fun p => z7 (s.ev p.2) := fun s2 hA => List.map_congr_left (fun p hp => by rw [hA.ev p.2 (by rw [hop]; exact List.mem_map.2 ⟨p, hp, rfl⟩)])
   split at hk
   ·rename_i hpl
    obtain ⟨ts, ids, ⟨h1, h2, hk⟩, hi, hf⟩ := zj5 _ hk
    have hfl : (parts.toList.map fun p => s.ev p.2).flatMap A.ids = s.ids (Op.buildSlice ty n parts).operands.toList := by
     rw [hop]
     unfold S.ids
     rw [List.flatMap_map, List.flatMap_map]
    rw [hfl] at hi hf
    refine ⟨ids ++ [(cls d, ⟨(s.o (cls d)).gen + 1, .row e de.size (ts.map zas)⟩)], .row (cls d) ((s.o (cls d)).gen + 1), fun p hp => ?_, ?_, fun s2 K2 hA hW hK => ?_⟩
    ·rcases List.mem_append.1 hp with hp | hp
     ·exact wm (hi p hp)
     ·obtain rfl := List.mem_singleton.1 hp
      exact wc hd
    ·unfold upd
     rw [List.foldl_append, List.foldl_cons, List.foldl_nil]
     rw [zeo ids (cls d) s h2] at hk
     exact hk
    ·have e2 := hW _ (wc (l := (Op.buildSlice ty n parts).operands.toList) hd)
     simp only [Ek, hd, zF, htd, he, hde, e3 s2 hA, hpl]
     rw [if_neg hn0]
     refine ⟨hc, hf _ _ (fun id hid => hA.o id hid) ⟨h1, h2, ?_⟩⟩
     unfold upd at hK
     rw [List.foldl_append, List.foldl_cons, List.foldl_nil, ← e2] at hK
     rw [zeo ids (cls d) s2 h2, ← hd]
     exact hK
   ·rename_i hpl
    obtain ⟨h1, hk⟩ := hk
    refine ⟨[(cls d, _)], _, fun p hp => ?_, hk, fun s2 K2 hA hW hK => ?_⟩
    ·obtain rfl := List.mem_singleton.1 hp
     exact wc hd
    ·have e2 := hW _ (wc (l := (Op.buildSlice ty n parts).operands.toList) hd)
     simp only [Ek, hd, zF, htd, he, hde, e3 s2 hA, e4 s2 hA, hpl]
     rw [if_neg hn0]
     refine ⟨hc, h1, ?_⟩
     rw [e2, ← hd]
     exact hK
  ·exact hk.elim
 case build ty parts =>
  obtain ⟨d, hd, hk⟩ := zE hk
  obtain ⟨td, htd, hk⟩ := zE hk
  have hop : (Op.build ty parts).operands.toList = parts.toList.map (·.2) := by simp [Op.operands]
  have hev : ∀ s2, Agr (Op.build ty parts).operands.toList s s2 → (parts.toList.map fun p => (p.1, s2.ev p.2)) = parts.toList.map fun p => (p.1, s.ev p.2) := fun s2 hA => List.map_congr_left (fun p hp => by rw [hA.ev p.2 (by rw [hop]; exact List.mem_map.2 ⟨p, hp, rfl⟩)])
  split at hk
  ·rename_i fs e
   obtain ⟨pl, hpl, hk⟩ := zE hk
   obtain ⟨l, hl, hz, hk⟩ := zE hk
   refine ⟨[], _, fun p hp => (by cases hp), hk, fun s2 K2 hA hW hK => ?_⟩
   simp only [Ek, hd, zF, htd, e, hpl, hev s2 hA, hl]
   exact ⟨hz, by rw [← hd]; exact hK⟩
  ·rename_i m e he
   obtain ⟨de, hde, hk⟩ := zE hk
   obtain ⟨l, hl, hz, hk⟩ := zE hk
   refine ⟨[], _, fun p hp => (by cases hp), hk, fun s2 K2 hA hW hK => ?_⟩
   simp only [Ek, hd, zF, htd, he, hde, hev s2 hA, hl]
   exact ⟨hz, by rw [← hd]; exact hK⟩
  ·exact hk.elim
 case slice ty x lo hi mx =>
  have hin : ∀ y, y = x ∨ lo = some y ∨ hi = some y → y ∈ (Op.slice ty x lo hi mx).operands.toList := fun y hy => by
   rcases hy with rfl | rfl | rfl <;> simp [Op.operands]
  obtain ⟨hmx, hk⟩ := hk
  obtain ⟨d, hd, hk⟩ := zE hk
  obtain ⟨td, htd, hk⟩ := zE hk
  have lo2 : ∀ s2, Agr (Op.slice ty x lo hi mx).operands.toList s s2 → ∀ y, lo = some y → s2.ev y = s.ev y := fun s2 hA y hy => hA.ev y (hin y (.inr (.inl hy)))
  have hi2 : ∀ s2, Agr (Op.slice ty x lo hi mx).operands.toList s s2 → ∀ y, hi = some y → s2.ev y = s.ev y := fun s2 hA y hy => hA.ev y (hin y (.inr (.inr hy)))
  have x2 : ∀ s2, Agr (Op.slice ty x lo hi mx).operands.toList s s2 → s2.ev x = s.ev x := fun s2 hA => hA.ev x (hin x (.inl rfl))
  split at hk
  ·rename_i b e1 e2
   obtain ⟨l, hk, hl⟩ := zcJ hk
   obtain ⟨r, ⟨hc, hk⟩, hr⟩ := zcJ hk
   refine ⟨[], _, fun p hp => (by cases hp), hk, fun s2 K2 hA hW hK => ?_⟩
   simp only [Ek, hmx, hd, zF, htd, e1, x2 s2 hA, e2]
   exact ⟨trivial, hl _ _ (lo2 s2 hA) (hr _ _ (hi2 s2 hA) ⟨hc, by rw [← hd]; exact hK⟩)⟩
  ·rename_i e xs e1 e2
   obtain ⟨de, hde, hk⟩ := zE hk
   obtain ⟨l, hk, hl⟩ := zcJ hk
   obtain ⟨r, ⟨hc, hz, hk⟩, hr⟩ := zcJ hk
   refine ⟨[], _, fun p hp => (by cases hp), hk, fun s2 K2 hA hW hK => ?_⟩
   simp only [Ek, hmx, hd, zF, htd, e1, x2 s2 hA, e2, hde]
   exact ⟨trivial, hl _ _ (lo2 s2 hA) (hr _ _ (hi2 s2 hA) ⟨hc, hz, by rw [← hd]; exact hK⟩)⟩
  ·rename_i e e1 e2
   obtain ⟨de, hde, hk⟩ := zE hk
   obtain ⟨l, hk, hl⟩ := zcJ hk
   obtain ⟨r, ⟨hc, hk⟩, hr⟩ := zcJ hk
   refine ⟨[], _, fun p hp => (by cases hp), hk, fun s2 K2 hA hW hK => ?_⟩
   simp only [Ek, hmx, hd, zF, htd, e1, x2 s2 hA, e2, hde]
   exact ⟨trivial, hl _ _ (lo2 s2 hA) (hr _ _ (hi2 s2 hA) ⟨hc, by rw [← hd]; exact hK⟩)⟩
  ·rename_i e id g e1 e2
   obtain ⟨hg, hlo, hk⟩ := hk
   have hmem : id ∈ s.ids (Op.slice ty x lo hi mx).operands.toList := List.mem_flatMap.2 ⟨x, hin x (.inl rfl), by rw [e2]; simp [A.ids, A.id1]⟩
   cases hkk : (s.o id).k with
   | none => rw [hkk] at hk; exact hk.elim
   | cells ty l => rw [hkk] at hk; exact hk.elim
   | ro l => rw [hkk] at hk; exact hk.elim
   | rowA ty z l => rw [hkk] at hk; exact hk.elim
   | map ks l => rw [hkk] at hk; exact hk.elim
   | row e' z l =>
    rw [hkk] at hk
    obtain ⟨he, hz, hk⟩ := hk
    obtain ⟨r, ⟨hc, hk⟩, hr⟩ := zcJ hk
    refine ⟨[(id, _)], _, fun p hp => ?_, hk, fun s2 K2 hA hW hK => ?_⟩
    ·obtain rfl := List.mem_singleton.1 hp
     exact wm hmem
    ·simp only [Ek, hmx, hd, zF, htd, e1, x2 s2 hA, e2, hA.o id hmem, hkk]
     exact ⟨trivial, hg, hlo, he, hz, hr _ _ (hi2 s2 hA) ⟨hc, by rw [← hd]; exact hK⟩⟩
  ·exact hk.elim
 case makeMap mt r =>
  cases r with
  | some r => exact hk.elim
  | none =>
   obtain ⟨d, hd, hk⟩ := zE hk
   obtain ⟨td, htd, hk⟩ := zE hk
   split at hk
   ·rename_i kt et e1
    obtain ⟨M, hk⟩ := hk
    refine ⟨[(cls d, _)], _, fun p hp => ?_, hk, fun s2 K2 hA hW hK => ?_⟩
    ·obtain rfl := List.mem_singleton.1 hp
     exact wc hd
    ·have e4 := hW _ (wc (l := (Op.makeMap mt none).operands.toList) hd)
     simp only [Ek, zbZ, hd, zF, htd, e1, e4]
     exact ⟨M, by rw [← hd]; exact hK⟩
   ·exact hk.elim
 case mapUpdate mt m x v =>
  obtain ⟨td, htd, hk⟩ := zE hk
  have hm : m ∈ (Op.mapUpdate mt m x v).operands.toList := by simp [Op.operands]
  have hx : x ∈ (Op.mapUpdate mt m x v).operands.toList := by simp [Op.operands]
  have hv : v ∈ (Op.mapUpdate mt m x v).operands.toList := by simp [Op.operands]
  split at hk
  ·rename_i kt et id g e1 e2
   obtain ⟨M, hg, hk⟩ := hk
   have hmem : id ∈ s.ids (Op.mapUpdate mt m x v).operands.toList := List.mem_flatMap.2 ⟨m, hm, by rw [e2]; simp [A.ids, A.id1]⟩
   split at hk
   ·rename_i ks l hkk
    obtain ⟨hks, hk⟩ := hk
    obtain ⟨ky, hky, h1, hk⟩ := zE hk
    refine ⟨[(id, _)], _, fun p hp => ?_, hk, fun s2 K2 hA hW hK => ?_⟩
    ·obtain rfl := List.mem_singleton.1 hp
     exact wm hmem
    ·simp only [Ek, zbZ, htd, zF, e1, hA.ev m hm, hA.ev x hx, hA.ev v hv, e2, hA.o id hmem, hkk]
     refine ⟨M, hg, hks, ?_⟩
     rw [hky]
     exact ⟨h1, hK⟩
   ·exact hk.elim
  ·exact hk.elim
 case insert mt m x v =>
  obtain ⟨td, htd, hk⟩ := zE hk
  have hm : m ∈ (Op.insert mt m x v).operands.toList := by simp [Op.operands]
  have hx : x ∈ (Op.insert mt m x v).operands.toList := by simp [Op.operands]
  have hv : v ∈ (Op.insert mt m x v).operands.toList := by simp [Op.operands]
  split at hk
  ·rename_i kt et id g e1 e2
   obtain ⟨M, hg, hk⟩ := hk
   have hmem : id ∈ s.ids (Op.insert mt m x v).operands.toList := List.mem_flatMap.2 ⟨m, hm, by rw [e2]; simp [A.ids, A.id1]⟩
   split at hk
   ·rename_i ks l hkk
    obtain ⟨hks, hk⟩ := hk
    obtain ⟨ky, hky, h1, hk⟩ := zE hk
    refine ⟨[(id, _)], _, fun p hp => ?_, hk, fun s2 K2 hA hW hK => ?_⟩
    ·obtain rfl := List.mem_singleton.1 hp
     exact wm hmem
    ·simp only [Ek, zbZ, htd, zF, e1, hA.ev m hm, hA.ev x hx, hA.ev v hv, e2, hA.o id hmem, hkk]
     refine ⟨M, hg, hks, ?_⟩
     rw [hky]
     exact ⟨h1, hK⟩
   ·exact hk.elim
  ·exact hk.elim
 case lookup mt m x c =>
  obtain ⟨td, htd, hk⟩ := zE hk
  have hm : m ∈ (Op.lookup mt m x c).operands.toList := by simp [Op.operands]
  have hx : x ∈ (Op.lookup mt m x c).operands.toList := by simp [Op.operands]
  split at hk
  ·rename_i kt et id g e1 e2
   obtain ⟨M, hg, hk⟩ := hk
   have hmem : id ∈ s.ids (Op.lookup mt m x c).operands.toList := List.mem_flatMap.2 ⟨m, hm, by rw [e2]; simp [A.ids, A.id1]⟩
   split at hk
   ·rename_i ks l hkk
    obtain ⟨hks, hk⟩ := hk
    obtain ⟨ky, hky, h1, hk⟩ := zE hk
    cases hget : zam l ky with
    | some y =>
     rw [hget] at hk
     refine ⟨[], _, fun p hp => (by cases hp), hk, fun s2 K2 hA hW hK => ?_⟩
     simp only [Ek, zbZ, htd, zF, e1, hA.ev m hm, hA.ev x hx, e2, hA.o id hmem, hkk]
     refine ⟨M, hg, hks, ?_⟩
     rw [hky]
     refine ⟨h1, ?_⟩
     rw [hget]
     exact hK
    | none =>
     rw [hget] at hk
     refine ⟨[], _, fun p hp => (by cases hp), hk, fun s2 K2 hA hW hK => ?_⟩
     simp only [Ek, zbZ, htd, zF, e1, hA.ev m hm, hA.ev x hx, e2, hA.o id hmem, hkk]
     refine ⟨M, hg, hks, ?_⟩
     rw [hky]
     refine ⟨h1, ?_⟩
     rw [hget]
     exact hK
   ·exact hk.elim
  ·exact hk.elim
 case call c =>
  obtain ⟨callee, args, tys⟩ := c
  cases callee with
  | invoke r m => exact hk.elim
  | value f =>
   cases f <;> first | exact hk.elim | skip
   ·rename_i t
    simp only [Ek] at hk
    split at hk
    ·rename_i f l m e
     have hin : ∀ x ∈ args.toList, x ∈ (Op.call ⟨.value (.tmp t), args, tys⟩).operands.toList := fun x hx => by simp [Op.operands, Call.operands]; right; simpa using hx
     have htin : .tmp t ∈ (Op.call ⟨.value (.tmp t), args, tys⟩).operands.toList := by simp [Op.operands, Call.operands]
     have hmem : ∀ i ∈ (l ++ args.toList.map s.ev ++ m).flatMap A.id2, i ∈ s.ids (Op.call ⟨.value (.tmp t), args, tys⟩).operands.toList := fun i hi => by
      obtain ⟨x, hx, hi⟩ := List.mem_flatMap.1 hi
      have key : ∀ x, x ∈ l ++ m → i ∈ x.id2 → i ∈ s.ids (Op.call ⟨.value (.tmp t), args, tys⟩).operands.toList := fun x hx hi => List.mem_flatMap.2 ⟨_, htin, by rw [e]; exact List.mem_flatMap.2 ⟨x, hx, hi⟩⟩
      rcases List.mem_append.1 hx with hx | hx
      ·rcases List.mem_append.1 hx with hx | hx
       ·exact key x (List.mem_append_left _ hx) hi
       ·obtain ⟨y, hy, rfl⟩ := List.mem_map.1 hx
        exact List.mem_flatMap.2 ⟨y, hin y hy, A.id2_sub hi⟩
      ·exact key x (List.mem_append_right _ hx) hi
     obtain ⟨up, y, h1, h2, h3⟩ := zg1 hmem hk
     refine ⟨up, y, fun p hp => wm (h1 p hp), h2, fun s2 K2 hA hW hK => ?_⟩
     have hev : args.toList.map s2.ev = args.toList.map s.ev := List.map_congr_left (fun x hx => hA.ev x (hin x hx))
     simp only [Ek, hA.ev _ htin, e, hev]
     exact h3 s2 K2 (fun i hi => hA.o i hi) hK
    ·exact hk.elim
   rename_i f
   have hin : ∀ x ∈ args.toList, x ∈ (Op.call ⟨.value (.func f), args, tys⟩).operands.toList := fun x hx => by simp [Op.operands, Call.operands]; right; simpa using hx
   have hmem : ∀ i ∈ (args.toList.map s.ev).flatMap A.id2, i ∈ s.ids (Op.call ⟨.value (.func f), args, tys⟩).operands.toList := fun i hi => by
    obtain ⟨x, hx, hi⟩ := List.mem_flatMap.1 hi
    obtain ⟨y, hy, rfl⟩ := List.mem_map.1 hx
    exact List.mem_flatMap.2 ⟨y, hin y hy, A.id2_sub hi⟩
   obtain ⟨up, y, h1, h2, h3⟩ := zg1 hmem hk
   refine ⟨up, y, fun p hp => wm (h1 p hp), h2, fun s2 K2 hA hW hK => ?_⟩
   have hev : args.toList.map s2.ev = args.toList.map s.ev := List.map_congr_left (fun x hx => hA.ev x (hin x hx))
   simp only [Ek, hev]
   exact h3 s2 K2 (fun i hi => hA.o i hi) hK
  | builtin b =>
   cases b <;> first | exact hk.elim | skip
   case delete =>
    simp only [Ek, zdO] at hk
    split at hk
    ·rename_i m x mt t2 ea eb
     obtain ⟨td, htd, hk⟩ := zE hk
     have e1 : args = #[m, x] := by rw [← Array.toArray_toList (xs := args), ea]
     have e2 : tys = #[mt, t2] := by rw [← Array.toArray_toList (xs := tys), eb]
     subst e1 e2
     have hm : m ∈ (Op.call ⟨.builtin .delete, #[m, x], #[mt, t2]⟩).operands.toList := by simp [Op.operands, Call.operands]
     have hx : x ∈ (Op.call ⟨.builtin .delete, #[m, x], #[mt, t2]⟩).operands.toList := by simp [Op.operands, Call.operands]
     split at hk
     ·rename_i kt et id g e1 e2
      obtain ⟨M, hg, hk⟩ := hk
      have hmem : id ∈ s.ids (Op.call ⟨.builtin .delete, #[m, x], #[mt, t2]⟩).operands.toList := List.mem_flatMap.2 ⟨m, hm, by rw [e2]; simp [A.ids, A.id1]⟩
      split at hk
      ·rename_i ks l hkk
       obtain ⟨hks, hk⟩ := hk
       obtain ⟨ky, hky, h1, hk⟩ := zE hk
       refine ⟨[(id, _)], _, fun p hp => ?_, hk, fun s2 K2 hA hW hK => ?_⟩
       ·obtain rfl := List.mem_singleton.1 hp
        exact wm hmem
       ·simp only [Ek, zdO, htd, zF, e1, hA.ev m hm, hA.ev x hx, e2, hA.o id hmem, hkk]
        refine ⟨M, hg, hks, ?_⟩
        rw [hky]
        exact ⟨h1, hK⟩
      ·exact hk.elim
     ·exact hk.elim
    ·exact hk.elim
   have hop : (Op.call ⟨.builtin .append, args, tys⟩).operands.toList = args.toList := by simp [Op.operands, Call.operands]
   rw [hop]
   have hk : apK tt cls dst (args.toList.map s.ev) tys.toList s K := hk
   suffices h : ∃ up y, (∀ p ∈ up, p.1 ∈ zb8 cls dst s args.toList) ∧ K (upd s up dst y) ∧ ∀ (s2 : S) (K2 : S → Prop), Agr args.toList s s2 → (∀ id ∈ zb8 cls dst s args.toList, s2.o id = s.o id) → K2 (upd s2 up dst y) → apK tt cls dst (args.toList.map s2.ev) tys.toList s2 K2 from h
   generalize args.toList = args at hk
   generalize tys.toList = tys at hk
   have hev : ∀ s2, Agr args s s2 → args.map s2.ev = args.map s.ev := fun s2 hA => List.map_congr_left (fun x hx => hA.ev x hx)
   unfold apK at hk
   split at hk
   ·rename_i x y t t' hargs
    obtain ⟨x0, y0, rfl, rfl, rfl⟩ : ∃ x0 y0, args = [x0, y0] ∧ s.ev x0 = x ∧ s.ev y0 = y := by
     match args, hargs with
     | [x0, y0], e => exact ⟨x0, y0, rfl, by simpa using e⟩
    obtain ⟨d, hd, hk⟩ := zE hk
    obtain ⟨td, htd, hk⟩ := zE hk
    by_cases htt : t = t' ∨ zdM tt t' = true
    ·simp only [if_pos htt] at hk
     split at hk
     ·rename_i e he
      obtain ⟨de, hde, hz, hk⟩ := zE hk
      have hB : ∀ s2, Agr [x0, y0] s s2 → (isA s2.o (s.ev x0) || isA s2.o (s.ev y0)) = (isA s.o (s.ev x0) || isA s.o (s.ev y0)) := fun s2 hA => by
       rw [zee (fun id hid => hA.at_ (x := x0) (by simp) hid), zee (fun id hid => hA.at_ (x := y0) (by simp) hid)]
      split at hk
      ·rename_i hAA
       obtain ⟨m, hk, hsrc⟩ := zj7 hk
       split at hk
       ·rename_i e1
        obtain ⟨hb, hk⟩ := hk
        refine ⟨[(cls d, _)], _, fun p hp => ?_, hk, fun s2 K2 hA hW hK => ?_⟩
        ·obtain rfl := List.mem_singleton.1 hp
         exact wc hd
        ·have e4 := hW _ (wc (l := [x0, y0]) hd)
         rw [hev s2 hA]
         simp only [List.map_cons, List.map_nil, apK, hd, zF, htd, he, hde, if_pos htt]
         rw [hB s2 hA, hAA]
         simp only [e1]
         refine ⟨hz, hsrc _ _ (fun id hid => hA.at_ (x := y0) (by simp) hid) ⟨hb, ?_⟩⟩
         rw [e4, ← hd]
         exact hK
       ·rename_i id g e1
        obtain ⟨hg, hk⟩ := hk
        have hmem : id ∈ s.ids [x0, y0] := List.mem_flatMap.2 ⟨x0, by simp, by rw [e1]; simp [A.ids, A.id1]⟩
        split at hk
        ·rename_i e' z l hkk
         obtain ⟨h1, h2, hb, hk⟩ := hk
         refine ⟨[(id, _)], _, fun p hp => ?_, hk, fun s2 K2 hA hW hK => ?_⟩
         ·obtain rfl := List.mem_singleton.1 hp
          exact wm hmem
         ·rw [hev s2 hA]
          simp only [List.map_cons, List.map_nil, apK, hd, zF, htd, he, hde, if_pos htt]
          rw [hB s2 hA, hAA]
          simp only [e1]
          refine ⟨hz, hsrc _ _ (fun id hid => hA.at_ (x := y0) (by simp) hid) ⟨by rw [hA.o id hmem]; exact hg, ?_⟩⟩
          rw [hA.o id hmem, hkk]
          exact ⟨h1, h2, hb, by rw [← hd]; exact hK⟩
        ·rename_i e' z l hkk
         obtain ⟨h1, h2, hb, hk⟩ := hk
         refine ⟨[(id, _)], _, fun p hp => ?_, hk, fun s2 K2 hA hW hK => ?_⟩
         ·obtain rfl := List.mem_singleton.1 hp
          exact wm hmem
         ·rw [hev s2 hA]
          simp only [List.map_cons, List.map_nil, apK, hd, zF, htd, he, hde, if_pos htt]
          rw [hB s2 hA, hAA]
          simp only [e1]
          refine ⟨hz, hsrc _ _ (fun id hid => hA.at_ (x := y0) (by simp) hid) ⟨by rw [hA.o id hmem]; exact hg, ?_⟩⟩
          rw [hA.o id hmem, hkk]
          exact ⟨h1, h2, hb, by rw [← hd]; exact hK⟩
        ·exact hk.elim
       ·exact hk.elim
      ·rename_i hAA
       obtain ⟨m, hk, hsrc⟩ := zg2 hk
       split at hk
       ·rename_i e1
        obtain ⟨hb, hk⟩ := hk
        refine ⟨[(cls d, _)], _, fun p hp => ?_, hk, fun s2 K2 hA hW hK => ?_⟩
        ·obtain rfl := List.mem_singleton.1 hp
         exact wc hd
        ·have e4 := hW _ (wc (l := [x0, y0]) hd)
         rw [hev s2 hA]
         simp only [List.map_cons, List.map_nil, apK, hd, zF, htd, he, hde, if_pos htt]
         rw [hB s2 hA, hAA]
         simp only [e1]
         refine ⟨hz, hsrc _ _ (fun id hid => hA.at_ (x := y0) (by simp) hid) ⟨hb, ?_⟩⟩
         rw [e4, ← hd]
         exact hK
       ·rename_i id g e1
        obtain ⟨hg, hk⟩ := hk
        have hmem : id ∈ s.ids [x0, y0] := List.mem_flatMap.2 ⟨x0, by simp, by rw [e1]; simp [A.ids, A.id1]⟩
        split at hk
        ·rename_i e' z l hkk
         obtain ⟨h1, h2, hb, hk⟩ := hk
         refine ⟨[(id, _)], _, fun p hp => ?_, hk, fun s2 K2 hA hW hK => ?_⟩
         ·obtain rfl := List.mem_singleton.1 hp
          exact wm hmem
         ·rw [hev s2 hA]
          simp only [List.map_cons, List.map_nil, apK, hd, zF, htd, he, hde, if_pos htt]
          rw [hB s2 hA, hAA]
          simp only [e1]
          refine ⟨hz, hsrc _ _ (fun id hid => hA.at_ (x := y0) (by simp) hid) ⟨by rw [hA.o id hmem]; exact hg, ?_⟩⟩
          rw [hA.o id hmem, hkk]
          exact ⟨h1, h2, hb, by rw [← hd]; exact hK⟩
        ·exact hk.elim
       ·exact hk.elim
     ·exact hk.elim
    ·simp only [if_neg htt] at hk
     split at hk
     ·rename_i e he
      obtain ⟨de, hde, hk⟩ := zE hk
      obtain ⟨dt, hdt, hz, hk⟩ := zE hk
      split at hk
      ·rename_i k n zv e1 e2 e3
       obtain ⟨hb, hk⟩ := hk
       split at hk
       ·rename_i u hu
        refine ⟨[(cls d, _)], _, fun p hp => ?_, hk, fun s2 K2 hA hW hK => ?_⟩
        ·obtain rfl := List.mem_singleton.1 hp
         exact wc hd
        ·have e4 := hW _ (wc (l := [x0, y0]) hd)
         rw [hev s2 hA]
         simp only [List.map_cons, List.map_nil, apK, hd, zF, htd, he, if_neg htt, hde, hdt, e1, e2, e3, hu]
         refine ⟨hz, hb, ?_⟩
         rw [e4, ← hd]
         exact hK
       ·rename_i hu
        refine ⟨[(cls d, _)], _, fun p hp => ?_, hk, fun s2 K2 hA hW hK => ?_⟩
        ·obtain rfl := List.mem_singleton.1 hp
         exact wc hd
        ·have e4 := hW _ (wc (l := [x0, y0]) hd)
         rw [hev s2 hA]
         simp only [List.map_cons, List.map_nil, apK, hd, zF, htd, he, if_neg htt, hde, hdt, e1, e2, e3, hu]
         refine ⟨hz, hb, ?_⟩
         rw [e4, ← hd]
         exact hK
       ·exact hk.elim
      ·rename_i id g k n zv e1 e2 e3
       obtain ⟨hg, hk⟩ := hk
       have hmem : id ∈ s.ids [x0, y0] := List.mem_flatMap.2 ⟨x0, by simp, by rw [e1]; simp [A.ids, A.id1]⟩
       split at hk
       ·rename_i e' z l hkk
        obtain ⟨h1, h2, hb, hk⟩ := hk
        split at hk
        ·rename_i u hu
         refine ⟨[(id, _)], _, fun p hp => ?_, hk, fun s2 K2 hA hW hK => ?_⟩
         ·obtain rfl := List.mem_singleton.1 hp
          exact wm hmem
         ·rw [hev s2 hA]
          simp only [List.map_cons, List.map_nil, apK, hd, zF, htd, he, if_neg htt, hde, hdt, e1, e2, e3]
          refine ⟨hz, by rw [hA.o id hmem]; exact hg, ?_⟩
          rw [hA.o id hmem, hkk]
          refine ⟨h1, h2, hb, ?_⟩
          simp only [hu]
          rw [← hd]
          exact hK
        ·exact hk.elim
       ·exact hk.elim
      ·exact hk.elim
     ·exact hk.elim
   ·exact hk.elim
 all_goals exact hk.elim
end
end Go.Proofs.YtbhoeanfnbkenaaGreatDoor
