/- The engine, 10: maps are made, looked up and written. -/
import Derived.Test.YtfflfmpkjcomgaaDoorEng7
import Derived.ChangeMaps5
namespace Go.Proofs.YtfflfmpkjcomgaaDoor
open Go.RowKit
open Go.ChangeMaps (setBlock heap_setBlock_same heap_setBlock_other)

theorem mapI_inj {k : IntKind} : ∀ {l m : List Int}, l.map (Value.int k) = m.map (Value.int k) → l = m
  | [], [], _ => rfl
  | [], _ :: _, h => by cases h
  | _ :: _, [], h => by cases h
  | x :: l, y :: m, h => by
    simp only [List.map_cons, List.cons.injEq, Value.int.injEq, true_and] at h
    rw [h.1, mapI_inj h.2]
theorem nodup_at {α : Type} : ∀ {l : List α} {i j : Nat} {x : α}, l.Nodup → l[i]? = some x → l[j]? = some x → i = j
  | y :: l, 0, 0, _, _, _, _ => rfl
  | y :: l, 0, j + 1, x, hn, h1, h2 => by
    cases h1
    exact absurd (List.mem_of_getElem? (show l[j]? = some y by simpa using h2)) (List.nodup_cons.1 hn).1
  | y :: l, i + 1, 0, x, hn, h1, h2 => by
    cases h2
    exact absurd (List.mem_of_getElem? (show l[i]? = some y by simpa using h1)) (List.nodup_cons.1 hn).1
  | y :: l, i + 1, j + 1, x, hn, h1, h2 => by
    rw [nodup_at (List.nodup_cons.1 hn).2 (show l[i]? = some x by simpa using h1) (show l[j]? = some x by simpa using h2)]
theorem Ky.inj {ks : KS} {a b : Ky} (ha : a.ok ks) (hb : b.ok ks) (h : a.v = b.v) : a = b := by
  cases ks <;> cases a <;> first | exact ha.elim | skip
  all_goals cases b <;> first | exact hb.elim | skip
  · simp only [Ky.v, Value.int.injEq] at h
    rw [h.1, h.2]
  · simp only [Ky.v, Value.string.injEq] at h
    rw [h]
  · rename_i q n k l k' l'
    obtain ⟨rfl, _⟩ := ha
    obtain ⟨rfl, _⟩ := hb
    simp only [Ky.v, Value.agg.injEq] at h
    have h2 := congrArg Array.toList h
    simp only at h2
    rw [mapI_inj h2]
section
variable {P : Program} {tt : Tys} {Hy : World → Prop} {X : World → (Nat → Prop) → (Nat → O) → (Nat → Value) → Prop} {B : Nat} {St : Nat → Prop} {Dp : List Deferred → Prop} {w0 w : World} {s : S} {ι : Nat → Value} {a : Act}

theorem getM_at : ∀ {l : List (Ky × A)} {j : Nat} {p : Ky × A}, (l.map (·.1)).Nodup → l[j]? = some p → getM l p.1 = some p.2
  | q :: l, 0, p, _, h => by
    cases h
    simp [getM]
  | q :: l, j + 1, p, hn, h => by
    rw [List.map_cons, List.nodup_cons] at hn
    have h' : l[j]? = some p := by simpa using h
    have hne : q.1 ≠ p.1 := fun e => hn.1 (by rw [e]; exact List.mem_map.2 ⟨p, List.mem_of_getElem? h', rfl⟩)
    have ih := getM_at hn.2 h'
    unfold getM at ih ⊢
    rw [List.find?_cons, decide_eq_false hne]
    exact ih
theorem getM_no {l : List (Ky × A)} {k : Ky} (h : k ∉ l.map (·.1)) : getM l k = none := by
  unfold getM
  rw [List.find?_eq_none.2 (fun p hp => by
    rw [decide_eq_true_eq]
    exact fun e => h (List.mem_map.2 ⟨p, hp, e⟩))]
  rfl
theorem find_map {mt kt et : TypeId} {ks : KS} {l : List (Ky × A)} {es : Array MapEntry} {C : Ky × A → MapEntry → Prop} (M : MLaw P tt mt kt et) (hks : ks = ksOf tt kt) (hsz : es.size = l.length) (hok : ∀ p ∈ l, p.1.ok ks)
    (hes : ∀ (j : Nat) p, l[j]? = some p → ∃ e, es[j]? = some e ∧ e.key = p.1.v ∧ C p e) {ky : Ky} (hky : ky.ok ks) (w : World) :
    ((Instr.findKey kt ky.v es.toList).run P w = .ok none w ∧ ky ∉ l.map (·.1)) ∨ ∃ j e p, (Instr.findKey kt ky.v es.toList).run P w = .ok (some (j, e.val)) w ∧ es[j]? = some e ∧ l[j]? = some p ∧ p.1 = ky ∧ e.key = ky.v ∧ C p e := by
  subst hks
  obtain ⟨kl, hkl⟩ := M.key ky hky
  have back : ∀ (j : Nat) e, es[j]? = some e → ∃ p, l[j]? = some p ∧ e.key = p.1.v ∧ C p e := fun j e he => by
    have hj := (Array.getElem?_eq_some_iff.1 he).1
    have hp : l[j]? = some l[j] := List.getElem?_eq_getElem (by omega)
    obtain ⟨e', h1, h2⟩ := hes j _ hp
    rw [he] at h1
    cases h1
    exact ⟨_, hp, h2⟩
  have all : ∀ e ∈ es.toList, ∃ l, keyOf P kt e.key = some l := fun e he => by
    obtain ⟨j, hj⟩ := List.getElem?_of_mem he
    obtain ⟨p, hp, hk, _⟩ := back j e (by simpa using hj)
    rw [hk]
    exact M.key _ (hok p (List.mem_of_getElem? hp))
  rcases M.keyed.find w hkl es.toList all with ⟨h1, h2⟩ | ⟨j, e, h1, h2, h3⟩
  · refine .inl ⟨h1, fun hm => ?_⟩
    obtain ⟨p, hp, rfl⟩ := List.mem_map.1 hm
    obtain ⟨j, hj⟩ := List.getElem?_of_mem hp
    obtain ⟨e, he, hk, _⟩ := hes j p hj
    exact h2 e (List.mem_of_getElem? (by simpa using he)) hk
  · obtain ⟨p, hp, hk, hc⟩ := back j e (by simpa using h2)
    exact .inr ⟨j, e, p, h1, by simpa using h2, hp, Ky.inj (hok p (List.mem_of_getElem? hp)) hky (by rw [← hk, h3]), h3, hc⟩

/-- a map that is read -/
theorem lookup_ok (h : Rel Hy X B St w0 Dp s ι a w) {mt kt et : TypeId} (M : MLaw P tt mt kt et) {m x : Operand} {id g : Nat} (e : s.ev m = .row id g) (hg : g = (s.o id).gen) {ks : KS} {l : List (Ky × A)} (hk : (s.o id).k = .map ks l) (hks : ks = ksOf tt kt) {ky : Ky} (hx : kyA (s.ev x) = some ky) (hky : ky.ok ks) (c : Bool) {K : A → Prop}
    (hK : match getM l ky with
      | some y => K (if c then .tup [y, .t (.b true)] else y)
      | none => K (if c then .tup [zA tt et, .t (.b false)] else zA tt et)) :
    ∃ v y, (Instr.lookup mt (a.eval m) (a.eval x) c).run P w = .ok v w ∧ Ra w (Sd B St s.o ι w) s.o ι v y ∧ K y := by
  have hm := h.ev m
  rw [e] at hm
  have hv := hm.row_get hg
  have ho := h.ob id
  rw [hk] at ho
  obtain ⟨blk, es, ck, h1, h2, h3, h4, h5, h6, h7⟩ := ho
  have hxv := kyA_v hx (h.ev x)
  rw [hv, h1, hxv]
  obtain ⟨kl, hkl⟩ := M.key ky (by rw [← hks]; exact hky)
  obtain ⟨z, hz, hzr⟩ := M.zero
  have tup : ∀ {v : Value} {y : A} (q : Bool), Ra w (Sd B St s.o ι w) s.o ι v y → Ra w (Sd B St s.o ι w) s.o ι (if c then .tuple #[v, .bool q] else v) (if c then .tup [y, .t (.b q)] else y) := fun {v y} q hr => by
    cases c
    · exact hr
    · refine .tup _ _ (fun j => if j = 0 then v else .bool q) rfl (fun j hj => ?_) (fun j x hx => ?_)
      · match j with
        | 0 => rfl
        | 1 => rfl
        | j + 2 => simp at hj; omega
      · match j with
        | 0 => cases hx; exact hr
        | 1 => cases hx; exact .t (.b q)
        | j + 2 => simp at hx
  rcases find_map (C := fun p e => True ∧ Ra w (Sd B St s.o ι w) s.o ι e.val p.2) M hks h4 h6 h7 hky w with ⟨f1, f2⟩ | ⟨j, e0, p, f1, f2, f3, f4, f5, f6, f7⟩
  · rw [getM_no f2] at hK
    exact ⟨_, _, by simp [Instr.lookup, run_underlying M.und, MapKept.run_getObj_map h3, M.keyed.check w _ hkl, f1, hz, Result.andThen], tup false (hzr _ _ _ _), hK⟩
  · rw [← f4, getM_at h5 f3] at hK
    exact ⟨_, _, by simp [Instr.lookup, run_underlying M.und, MapKept.run_getObj_map h3, M.keyed.check w _ hkl, f1, Result.andThen], tup true f7, hK⟩

/-- a new map -/
theorem newMap_ok (h : Rel Hy X B St w0 Dp s ι a w) (id : Nat) (ks : KS) (d : Option Nat) :
    ∃ ι', Rel Hy X B St w0 Dp ((s.ob id ⟨(s.o id).gen + 1, .map ks []⟩).put d (.row id ((s.o id).gen + 1))) ι' (a.put d (.map (some w.heap.size))) (w.alloc (.map #[] 0)) := by
  refine ⟨fun i => if i = id then .map (some w.heap.size) else ι i, Rel.next h id _ (.map (some w.heap.size)) d _ _ ?_ (fun i hi => if_neg hi) (if_pos rfl) (Nat.le_succ _) (fun e => absurd e (Nat.ne_of_lt (Nat.lt_succ_self _))) (fun b hb _ => Below.heap_alloc _ _ _ hb) (fun b e => ?_) (fun mT mA => ?_) (fun mT mA _ => ?_)⟩
  · exact (Below.refl B w).alloc h.hB _
  · unfold mb at e
    rw [show (s.ob id ⟨(s.o id).gen + 1, .map ks []⟩).o id = ⟨(s.o id).gen + 1, .map ks []⟩ from if_pos rfl] at e
    simp only [if_true, Value.blk, Option.some.injEq] at e
    exact .inr (Nat.le_of_eq e)
  · exact ⟨w.heap.size, #[], 0, rfl, h.hB, heap_alloc_new w _, rfl, List.nodup_nil, fun p hp => (by cases hp), fun j p hp => (by simp at hp)⟩
  · refine .row ?_ (fun _ => (if_pos rfl).symm) rfl
    rw [show (s.ob id ⟨(s.o id).gen + 1, .map ks []⟩).o id = ⟨(s.o id).gen + 1, .map ks []⟩ from if_pos rfl]
    exact Nat.le_refl _

/-- a map that is written -/
theorem update_ok (h : Rel Hy X B St w0 Dp s ι a w) {mt kt et : TypeId} (M : MLaw P tt mt kt et) {m x v : Operand} {id g : Nat} (e : s.ev m = .row id g) (hg : g = (s.o id).gen) {ks : KS} {l : List (Ky × A)} (hk : (s.o id).k = .map ks l) (hks : ks = ksOf tt kt) {ky : Ky} (hx : kyA (s.ev x) = some ky) (hky : ky.ok ks) (dst : Option Nat) :
    ∃ w', (Instr.mapUpdate mt (a.eval m) (a.eval x) (a.eval v)).run P w = .ok () w' ∧ Rel Hy X B St w0 Dp ((s.ob id ⟨g, .map ks (putM l ky (s.ev v))⟩).put dst .junk) ι (a.put dst undef) w' := by
  have hm := h.ev m
  rw [e] at hm
  have hv := hm.row_get hg
  have ho := h.ob id
  rw [hk] at ho
  obtain ⟨blk, es, ck, h1, h2, h3, h4, h5, h6, h7⟩ := ho
  have hxv := kyA_v hx (h.ev x)
  rw [hv, h1, hxv]
  obtain ⟨kl, hkl⟩ := M.key ky (by rw [← hks]; exact hky)
  have hmb : mb s.o ι id = some blk := by unfold mb; rw [hk, h1]; rfl
  have fin : ∀ {es' : Array MapEntry} {ck' : Nat} {l' : List (Ky × A)}, es'.size = l'.length → (l'.map (·.1)).Nodup → (∀ p ∈ l', p.1.ok ks) → (∀ (w' : World) (D : Nat → Prop) (o : Nat → O), (∀ (v : Value) (z : A), Ra w (Sd B St s.o ι w) s.o ι v z → Ra w' D o ι v z) →
      ∀ (j : Nat) p, l'[j]? = some p → ∃ e, es'[j]? = some e ∧ e.key = p.1.v ∧ True ∧ Ra w' D o ι e.val p.2) → Rel Hy X B St w0 Dp ((s.ob id ⟨g, .map ks l'⟩).put dst .junk) ι (a.put dst undef) (setBlock w blk (.map es' ck')) := fun {es' ck' l'} g1 g2 g3 g4 => by
    refine Rel.next h id _ (ι id) dst _ _ ⟨rfl, rfl, rfl, by simp [setBlock], fun i hi => heap_setBlock_other h3 _ (by omega)⟩ (fun _ _ => rfl) rfl (Nat.le_of_eq hg.symm) (fun _ => rfl) (fun b hb hne => heap_setBlock_other h3 _ (fun e => hne (by rw [hmb, e]))) (fun b hb => ?_) (fun mT mA => ?_) (fun _ _ _ => .junk)
    · left
      rw [hmb, ← hb]
      unfold mb
      rw [show (s.ob id ⟨g, .map ks l'⟩).o id = ⟨g, .map ks l'⟩ from if_pos rfl, h1]
      rfl
    · exact ⟨blk, es', ck', h1, h2, heap_setBlock_same h3 _, g1, g2, g3, g4 _ _ _ mA⟩
  rcases find_map (C := fun p e => True ∧ Ra w (Sd B St s.o ι w) s.o ι e.val p.2) M hks h4 h6 h7 hky w with ⟨f1, f2⟩ | ⟨j, e0, p, f1, f2, f3, f4, f5, f6, f7⟩
  · refine ⟨_, by simp [Instr.mapUpdate, run_underlying M.und, MapKept.run_getObj_map h3, M.keyed.check w _ hkl, f1, MapKept.run_setObj_map _ h3, Result.andThen]; rfl, fin (es' := es.push ⟨ky.v, a.eval v, ck⟩) (ck' := ck + 1) ?_ ?_ ?_ ?_⟩
    · rw [putM, if_neg f2]
      simp [h4]
    · rw [putM, if_neg f2, List.map_append, List.nodup_append]
      refine ⟨h5, by simp, fun u hu y hy => ?_⟩
      have hy : y = ky := by simpa using hy
      exact fun e => f2 (by rw [← hy, ← e]; exact hu)
    · rw [putM, if_neg f2]
      intro q hq
      rcases List.mem_append.1 hq with hq | hq
      · exact h6 q hq
      · rw [List.mem_singleton.1 hq]
        exact hky
    · rw [putM, if_neg f2]
      intro w' D o mA j q hq
      by_cases hj : j < l.length
      · rw [List.getElem?_append_left hj] at hq
        obtain ⟨e1, q1, q2, q3, q4⟩ := h7 j q hq
        exact ⟨e1, by rw [Array.getElem?_push, if_neg (by omega)]; exact q1, q2, q3, mA _ _ q4⟩
      · rw [List.getElem?_append_right (by omega)] at hq
        have hj2 : j = es.size := by
          have := (List.getElem?_eq_some_iff.1 hq).1
          simp at this
          omega
        rw [show j - l.length = 0 by omega] at hq
        cases hq
        exact ⟨_, by rw [hj2, Array.getElem?_push, if_pos rfl], rfl, trivial, mA _ _ (h.ev v)⟩
  · have hmem : ky ∈ l.map (·.1) := List.mem_map.2 ⟨p, List.mem_of_getElem? f3, f4⟩
    have hst := M.keyed.stays w hkl
    have hidx : ∀ (i : Nat) q, l[i]? = some q → (q.1 = ky ↔ i = j) := fun i q hq => by
      have a1 : (l.map (·.1))[i]? = some q.1 := by rw [List.getElem?_map, hq]; rfl
      have a2 : (l.map (·.1))[j]? = some p.1 := by rw [List.getElem?_map, f3]; rfl
      constructor
      · intro e
        exact nodup_at h5 (by rw [a1, e]) (by rw [a2, f4])
      · intro e
        subst e
        rw [f3] at hq
        cases hq
        exact f4
    refine ⟨_, by simp [Instr.mapUpdate, run_underlying M.und, MapKept.run_getObj_map h3, M.keyed.check w _ hkl, f1, f2, f5, hst, MapKept.run_setObj_map _ h3, Result.andThen]; rfl, fin (es' := es.modify j fun e => { e with key := ky.v, val := a.eval v }) (ck' := ck) ?_ ?_ ?_ ?_⟩
    · rw [putM, if_pos hmem]
      simp [h4]
    · rw [putM, if_pos hmem, List.map_map]
      have : (l.map ((fun x => x.1) ∘ fun p => if p.1 = ky then (ky, s.ev v) else p)) = l.map (·.1) := List.map_congr_left (fun q hq => by
        show (if q.1 = ky then (ky, s.ev v) else q).1 = q.1
        split
        · rename_i e; exact e.symm
        · rfl)
      rw [this]
      exact h5
    · rw [putM, if_pos hmem]
      intro q hq
      obtain ⟨q0, hq0, rfl⟩ := List.mem_map.1 hq
      split
      · exact hky
      · exact h6 q0 hq0
    · rw [putM, if_pos hmem]
      intro w' D o mA i q hq
      rw [List.getElem?_map] at hq
      obtain ⟨q0, hq0, rfl⟩ := Option.map_eq_some_iff.1 hq
      obtain ⟨e1, q1, q2, q3, q4⟩ := h7 i q0 hq0
      rw [Array.getElem?_modify, q1]
      by_cases hi : i = j
      · rw [if_pos hi.symm, if_pos ((hidx i q0 hq0).2 hi)]
        exact ⟨_, rfl, rfl, trivial, mA _ _ (h.ev v)⟩
      · rw [if_neg (fun e => hi e.symm), if_neg (fun e => hi ((hidx i q0 hq0).1 e))]
        exact ⟨e1, rfl, q2, q3, mA _ _ q4⟩

theorem delM_at : ∀ {l : List (Ky × A)} {j : Nat} {p : Ky × A}, (l.map (·.1)).Nodup → l[j]? = some p → delM l p.1 = l.eraseIdx j
  | q :: l, 0, p, hn, h => by
    cases h
    rw [List.map_cons, List.nodup_cons] at hn
    unfold delM
    rw [List.filter_cons, if_neg (by simp), List.eraseIdx_cons_zero]
    exact List.filter_eq_self.2 fun r hr => decide_eq_true fun e => hn.1 (by rw [← e]; exact List.mem_map.2 ⟨r, hr, rfl⟩)
  | q :: l, j + 1, p, hn, h => by
    rw [List.map_cons, List.nodup_cons] at hn
    have h' : l[j]? = some p := by simpa using h
    have hne : q.1 ≠ p.1 := fun e => hn.1 (by rw [e]; exact List.mem_map.2 ⟨p, List.mem_of_getElem? h', rfl⟩)
    have ih := delM_at hn.2 h'
    unfold delM at ih ⊢
    rw [List.filter_cons, if_pos (decide_eq_true hne), List.eraseIdx_cons_succ, ih]
theorem delM_no {l : List (Ky × A)} {k : Ky} (h : k ∉ l.map (·.1)) : delM l k = l := List.filter_eq_self.2 fun r hr => decide_eq_true fun e => h (by rw [← e]; exact List.mem_map.2 ⟨r, hr, rfl⟩)
/-- a key is taken out -/
theorem delete_ok (h : Rel Hy X B St w0 Dp s ι a w) {mt kt et : TypeId} (M : MLaw P tt mt kt et) {m x : Operand} {id g : Nat} (e : s.ev m = .row id g) (hg : g = (s.o id).gen) {ks : KS} {l : List (Ky × A)} (hk : (s.o id).k = .map ks l) (hks : ks = ksOf tt kt) {ky : Ky} (hx : kyA (s.ev x) = some ky) (hky : ky.ok ks) (dst : Option Nat) (ty t2 : TypeId) :
    ∃ w', (Builtin.delete_ #[mt, t2] ty #[a.eval m, a.eval x]).run P w = .ok (.tuple #[]) w' ∧ Rel Hy X B St w0 Dp ((s.ob id ⟨g, .map ks (delM l ky)⟩).put dst (.tup [])) ι (a.put dst (.tuple #[])) w' := by
  have hm := h.ev m
  rw [e] at hm
  have hv := hm.row_get hg
  have ho := h.ob id
  rw [hk] at ho
  obtain ⟨blk, es, ck, h1, h2, h3, h4, h5, h6, h7⟩ := ho
  have hxv := kyA_v hx (h.ev x)
  rw [hv, h1, hxv]
  obtain ⟨kl, hkl⟩ := M.key ky (by rw [← hks]; exact hky)
  have hmb : mb s.o ι id = some blk := by unfold mb; rw [hk, h1]; rfl
  have fin : ∀ {es' : Array MapEntry} {l' : List (Ky × A)}, es'.size = l'.length → (l'.map (·.1)).Nodup → (∀ p ∈ l', p.1.ok ks) → (∀ (w' : World) (D : Nat → Prop) (o : Nat → O), (∀ (v : Value) (z : A), Ra w (Sd B St s.o ι w) s.o ι v z → Ra w' D o ι v z) →
      ∀ (j : Nat) p, l'[j]? = some p → ∃ e, es'[j]? = some e ∧ e.key = p.1.v ∧ True ∧ Ra w' D o ι e.val p.2) → Rel Hy X B St w0 Dp ((s.ob id ⟨g, .map ks l'⟩).put dst (.tup [])) ι (a.put dst (.tuple #[])) (setBlock w blk (.map es' ck)) := fun {es' l'} g1 g2 g3 g4 => by
    refine Rel.next h id _ (ι id) dst _ _ ⟨rfl, rfl, rfl, by simp [setBlock], fun i hi => heap_setBlock_other h3 _ (by omega)⟩ (fun _ _ => rfl) rfl (Nat.le_of_eq hg.symm) (fun _ => rfl) (fun b hb hne => heap_setBlock_other h3 _ (fun e => hne (by rw [hmb, e]))) (fun b hb => ?_) (fun mT mA => ?_) (fun _ _ _ => .tup #[] [] (fun _ => undef) rfl (fun j hj => absurd hj (Nat.not_lt_zero j)) (fun j x hx => by simp at hx))
    · left
      rw [hmb, ← hb]
      unfold mb
      rw [show (s.ob id ⟨g, .map ks l'⟩).o id = ⟨g, .map ks l'⟩ from if_pos rfl, h1]
      rfl
    · exact ⟨blk, es', ck, h1, h2, heap_setBlock_same h3 _, g1, g2, g3, g4 _ _ _ mA⟩
  rcases find_map (C := fun p e => True ∧ Ra w (Sd B St s.o ι w) s.o ι e.val p.2) M hks h4 h6 h7 hky w with ⟨f1, f2⟩ | ⟨j, e0, p, f1, f2, f3, f4, f5, f6, f7⟩
  · refine ⟨_, by simp [Builtin.delete_, run_underlying M.und, MapKept.run_getObj_map h3, M.keyed.check w _ hkl, f1, MapKept.run_setObj_map _ h3, Result.andThen]; rfl, fin (es' := es) ?_ ?_ ?_ ?_⟩
    all_goals rw [delM_no f2]
    · exact h4
    · exact h5
    · exact h6
    · intro w' D o mA j q hq
      obtain ⟨e1, q1, q2, q3, q4⟩ := h7 j q hq
      exact ⟨e1, q1, q2, q3, mA _ _ q4⟩
  · have hj := (List.getElem?_eq_some_iff.1 f3).1
    refine ⟨_, by simp [Builtin.delete_, run_underlying M.und, MapKept.run_getObj_map h3, M.keyed.check w _ hkl, f1, MapKept.run_setObj_map _ h3, Result.andThen]; rfl, fin (es' := es.eraseIdxIfInBounds j) ?_ ?_ ?_ ?_⟩
    all_goals rw [← f4, delM_at h5 f3]
    · rw [← Array.length_toList, Array.toList_eraseIdxIfInBounds, List.length_eraseIdx, List.length_eraseIdx, if_pos hj, if_pos (by simp; omega)]
      simp [h4]
    · exact h5.sublist ((List.eraseIdx_sublist _ _).map _)
    · exact fun q hq => h6 q ((List.eraseIdx_sublist _ _).subset hq)
    · intro w' D o mA i q hq
      have hes : (es.eraseIdxIfInBounds j)[i]? = if i < j then es[i]? else es[i + 1]? := by
        rw [← Array.getElem?_toList, Array.toList_eraseIdxIfInBounds, List.getElem?_eraseIdx]
        simp
      rw [List.getElem?_eraseIdx] at hq
      rw [hes]
      split at hq
      · rename_i hi
        obtain ⟨e1, q1, q2, q3, q4⟩ := h7 i q hq
        exact ⟨e1, by rw [if_pos hi]; exact q1, q2, q3, mA _ _ q4⟩
      · rename_i hi
        obtain ⟨e1, q1, q2, q3, q4⟩ := h7 (i + 1) q hq
        exact ⟨e1, by rw [if_neg hi]; exact q1, q2, q3, mA _ _ q4⟩
end
end Go.Proofs.YtfflfmpkjcomgaaDoor
