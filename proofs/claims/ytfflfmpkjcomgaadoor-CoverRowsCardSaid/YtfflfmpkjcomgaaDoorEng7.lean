/- The engine, 7: every operation that makes or writes does what the engine says. -/
import Derived.Test.YtfflfmpkjcomgaaDoorEng6
import Derived.Lib.AppendZeros
import Derived.Laws.DeepStrings4
import Derived.Laws.Slices
import Derived.Laws.Strings2
namespace Go.Proofs.YtfflfmpkjcomgaaDoor
open Go.RowKit
section
variable {P : Program} {tt : Tys} {Hy : World → Prop} {X : World → (Nat → Prop) → (Nat → O) → (Nat → Value) → Prop} {B : Nat} {St : Nat → Prop} {Dp : List Deferred → Prop} {w0 w : World} {s : S} {ι : Nat → Value} {a : Act}

/-- a new row -/
theorem newrow_ok (h : Rel Hy X B St w0 Dp s ι a w) (id : Nat) (e : TypeId) (z : Nat) (l : List (List T)) (v : Value) (w' : World) (xs : List Value) (hb : Below w.heap.size w w')
    (hr : w'.ownsRow w.heap.size e z v l.length xs) (hl : ∀ x ∈ l, x.length = z) (hc : ∀ (j : Nat) y, l.flatten[j]? = some y → ∃ c, xs[j]? = some c ∧ y.leaf = true ∧ Rt w (Sd B St s.o ι w) c y) (d : Option Nat) :
    ∃ ι', Rel Hy X B St w0 Dp ((s.ob id ⟨(s.o id).gen + 1, .row e z l⟩).put d (.row id ((s.o id).gen + 1))) ι' (a.put d v) w' := by
  have oid : (s.ob id ⟨(s.o id).gen + 1, .row e z l⟩).o id = ⟨(s.o id).gen + 1, .row e z l⟩ := if_pos rfl
  have v1 : v.oneCell' = true := by rcases hr.2 with ⟨h4, _⟩ | ⟨_, _, _, h4, _⟩ <;> (rw [h4]; rfl)
  refine ⟨fun i => if i = id then v else ι i, Rel.next h id _ v d _ _ (hb.mono h.hB) (fun i hi => if_neg hi) (if_pos rfl) (Nat.le_succ _) (fun e => absurd e (Nat.ne_of_lt (Nat.lt_succ_self _))) (fun b hlt _ => hb.block b hlt) (fun b e => ?_) (fun mT mA => ?_) (fun mT mA _ => ?_)⟩
  · unfold mb at e
    rw [oid] at e
    simp only [if_true] at e
    right
    refine (hr.lt b ?_).1
    rcases hr.2 with ⟨h4, _⟩ | ⟨_, _, _, h4, _⟩
    · rw [h4] at e; cases e
    · rw [h4] at e ⊢; exact e
  · refine ⟨hl, xs, owns_mono hr h.hB, fun j y hy => ?_⟩
    obtain ⟨c, p1, p2, p3⟩ := hc j y hy
    exact ⟨c, p1, p2, mT _ _ p3⟩
  · refine .row ?_ (fun _ => (if_pos rfl : (if id = id then v else ι id) = v).symm) v1
    rw [oid]
    exact Nat.le_refl _

/-- a new row of handles -/
theorem newrowA_ok (h : Rel Hy X B St w0 Dp s ι a w) (id : Nat) (e : TypeId) (z : Nat) (l : List (List A)) (v : Value) (w' : World) (xs : List Value) (hb : Below w.heap.size w w')
    (hr : w'.ownsRow w.heap.size e z v l.length xs) (hl : ∀ x ∈ l, x.length = z) (hc : ∀ (j : Nat) y, l.flatten[j]? = some y → ∃ c, xs[j]? = some c ∧ y.leaf = true ∧ Ra w (Sd B St s.o ι w) s.o ι c y) (d : Option Nat) :
    ∃ ι', Rel Hy X B St w0 Dp ((s.ob id ⟨(s.o id).gen + 1, .rowA e z l⟩).put d (.row id ((s.o id).gen + 1))) ι' (a.put d v) w' := by
  have oid : (s.ob id ⟨(s.o id).gen + 1, .rowA e z l⟩).o id = ⟨(s.o id).gen + 1, .rowA e z l⟩ := if_pos rfl
  have v1 : v.oneCell' = true := by rcases hr.2 with ⟨h4, _⟩ | ⟨_, _, _, h4, _⟩ <;> (rw [h4]; rfl)
  refine ⟨fun i => if i = id then v else ι i, Rel.next h id _ v d _ _ (hb.mono h.hB) (fun i hi => if_neg hi) (if_pos rfl) (Nat.le_succ _) (fun e => absurd e (Nat.ne_of_lt (Nat.lt_succ_self _))) (fun b hlt _ => hb.block b hlt) (fun b e => ?_) (fun mT mA => ?_) (fun mT mA _ => ?_)⟩
  · unfold mb at e
    rw [oid] at e
    simp only [if_true] at e
    right
    refine (hr.lt b ?_).1
    rcases hr.2 with ⟨h4, _⟩ | ⟨_, _, _, h4, _⟩
    · rw [h4] at e; cases e
    · rw [h4] at e ⊢; exact e
  · refine ⟨hl, xs, owns_mono hr h.hB, fun j y hy => ?_⟩
    obtain ⟨c, p1, p2, p3⟩ := hc j y hy
    exact ⟨c, p1, p2, mA _ _ p3⟩
  · refine .row ?_ (fun _ => (if_pos rfl : (if id = id then v else ι id) = v).symm) v1
    rw [oid]
    exact Nat.le_refl _

theorem zip_eval (a : Act) (parts : Array (Nat × Operand)) (n : Nat) (h : parts.toList.map (·.1) = List.range n) :
    (parts.map fun (i, x) => (i, a.eval x)).toList = ((parts.toList.map fun p => a.eval p.2).zipIdx 0).map fun x => (x.2, x.1) := by
  rw [Array.toList_map]
  apply List.ext_getElem?
  intro j
  simp only [List.getElem?_map, List.getElem?_zipIdx, Nat.zero_add]
  cases hj : parts.toList[j]? with
  | none => simp
  | some p =>
    have : (parts.toList.map (·.1))[j]? = some p.1 := by rw [List.getElem?_map, hj]; rfl
    rw [h] at this
    have h2 := List.getElem?_eq_some_iff.1 this
    simp at h2
    simp [h2.2]

theorem buildSlice_ok (h : Rel Hy X B St w0 Dp s ι a w) (hT : Tys.ok P tt) {K : S → Prop} {dst : Option Nat} {cls : Nat → Nat} {ty : TypeId} {n : Nat} {parts : Array (Nat × Operand)} (hk : Ek P Hy tt cls dst (.buildSlice ty n parts) s K) :
    ∃ ι' s' v w', (Instr.buildSlice ty n (parts.map fun (i, x) => (i, a.eval x))).run P w = .ok v w' ∧ Rel Hy X B St w0 Dp s' ι' (a.put dst v) w' ∧ K s' := by
  obtain ⟨d, _, hk⟩ := optK_get hk
  obtain ⟨td, hd, hk⟩ := optK_get hk
  split at hk
  · rename_i e he
    obtain ⟨de, hde, hk⟩ := optK_get hk
    obtain ⟨u, hu, hok⟩ := (hT _ _ hd).desc
    obtain ⟨hok, _⟩ := hok
    rw [he] at hok
    simp only [TK.ok] at hok
    subst hok
    obtain ⟨i, z, i1, i2, i3, i4, i5⟩ := (hT _ _ hde).info
    by_cases hn0 : n = 0
    · rw [if_pos hn0] at hk
      obtain ⟨hp, hk0⟩ := hk
      obtain rfl : parts = #[] := Array.toList_eq_nil_iff.1 hp
      subst hn0
      have hrun : (Instr.buildSlice ty 0 ((#[] : Array (Nat × Operand)).map fun (i, x) => (i, a.eval x))).run P w = .ok (.slice (some ⟨w.heap.size, 0, none⟩) 0 0) (w.alloc (.cells #[] e)) := by
        simp [Instr.buildSlice, run_underlying hu, sizeOf, typeInfo, i1, Instr.fill, newRow]
        exact congrArg (fun c => w.alloc (.cells c e)) (Array.eq_empty_of_size_eq_zero (by simp))
      obtain ⟨ι', hR⟩ := newrow_ok h (cls d) e de.size [] (.slice (some ⟨w.heap.size, 0, none⟩) 0 0) (w.alloc (.cells #[] e)) [] ((Below.refl _ w).alloc (Nat.le_refl _) _)
        (World.ownsRow_lit (base := w.heap.size) (e := e) (size := de.size) w #[] 0 (Nat.le_refl _) (Nat.zero_le _) (by simp)) (fun x hx => (by cases hx)) (fun j y hy => (by simp at hy)) dst
      exact ⟨ι', _, _, _, hrun, hR, hk0⟩
    rw [if_neg hn0] at hk
    obtain ⟨⟨c1, c2, c3, c4, c5⟩, hk⟩ := hk
    have hzs : z.cells.size = i.size := by rw [i2, ← c5, ← i5]; simp
    have hev : ∀ (j : Nat) x, (parts.toList.map fun p => s.ev p.2)[j]? = some x → Ra w (Sd B St s.o ι w) s.o ι ((parts.toList.map fun p => a.eval p.2).getD j undef) x := fun j x hx => by
      rw [List.getElem?_map] at hx
      obtain ⟨x0, h0, rfl⟩ := Option.map_eq_some_iff.1 hx
      rw [show (parts.toList.map fun p => a.eval p.2).getD j undef = a.eval x0.2 by simp only [List.getD_eq_getElem?_getD, List.getElem?_map, h0]; rfl]
      exact h.ev x0.2
    split at hk
    · obtain ⟨ts, ids, g1, g2, g3, hall, _, hk⟩ := frzL_ok h (parts.toList.map fun p => s.ev p.2) _ hev (frzL_mask hk)
      obtain ⟨k1, k2, k3⟩ := Rel.frz h g1
      generalize hvs : parts.toList.map (fun p => a.eval p.2) = vs at g3
      have hpl : parts.toList.length = n := by have := congrArg List.length c1; simpa using this
      have hvl : vs.length = n := by rw [← hvs]; simpa using hpl
      have htl : ts.length = n := by rw [g2]; simpa using hpl
      have cell : ∀ (j : Nat) t, ts[j]? = some t → ∃ v, vs[j]? = some v ∧ Rt w (Sd B St (s.frz ids).o ι w) v t := fun j t ht => by
        have hj : j < vs.length := by have := (List.getElem?_eq_some_iff.1 ht).1; omega
        refine ⟨vs[j], List.getElem?_eq_getElem hj, ?_⟩
        have := (g3 j t ht).rt h g1
        rwa [show vs.getD j undef = vs[j] by simp [hj]] at this
      have hall2 : ∀ t ∈ ts, (cellsT t).length = de.size ∧ (cellsT t).all T.leaf = true := fun t ht => by
        have := List.all_eq_true.1 hall t ht
        rw [Bool.and_eq_true, beq_iff_eq] at this
        exact this
      have hvz : ∀ v ∈ vs, v.cells.size = de.size := fun v hv => by
        obtain ⟨j, hj⟩ := List.getElem?_of_mem hv
        have hjl : j < ts.length := by have := (List.getElem?_eq_some_iff.1 hj).1; omega
        obtain ⟨v', hv', hr⟩ := cell j _ (List.getElem?_eq_getElem hjl)
        rw [hj] at hv'
        cases hv'
        rw [(cellsT_get hr).1]
        exact (hall2 _ (List.getElem_mem hjl)).1
      have hf := Great.fill_whole c2 vs ((Array.range (n * de.size)).map (z.cells[· % z.cells.size]!)) hvz (by simp [hvl])
      rw [← hvs, ← zip_eval a parts n c1, hvs] at hf
      have hrun := run_buildSlice (P := P) w ty e n (parts.map fun (i, x) => (i, a.eval x)) _ i z hu i1 i4 (by rw [i2]; omega) (by rw [i2]; exact Nat.ne_of_gt (Nat.mul_pos c3 c2)) (by rw [i2]; exact hf)
      have hsz : (vs.flatMap fun v => v.cells.toList).length = n * de.size := by
        have e1 := flat_size (l := vs.map fun v => v.cells.toList) (z := de.size) (fun x hx => by obtain ⟨v, hv, rfl⟩ := List.mem_map.1 hx; simpa using hvz v hv)
        rw [List.flatMap_def, e1, List.length_map, hvl]
      obtain ⟨ι', hR⟩ := newrow_ok k1 (cls d) e de.size (ts.map cellsT) (.slice (some ⟨w.heap.size, 0, none⟩) n n) (w.alloc (.cells (vs.flatMap fun v => v.cells.toList).toArray e)) (vs.flatMap fun v => v.cells.toList)
        ((Below.refl _ w).alloc (Nat.le_refl _) _) (by
          have := World.ownsRow_lit (base := w.heap.size) (e := e) (size := de.size) w (vs.flatMap fun v => v.cells.toList).toArray n (Nat.le_refl _) (by simp only [maxLen]; have := Nat.le_mul_of_pos_right n c2; omega) (by simpa using hsz)
          simpa [htl] using this)
        (fun x hx => by obtain ⟨t, ht, rfl⟩ := List.mem_map.1 hx; exact (hall2 t ht).1)
        (fun j y hy => by
          have hz1 : ∀ x ∈ ts.map cellsT, x.length = de.size := fun x hx => by obtain ⟨t, ht, rfl⟩ := List.mem_map.1 hx; exact (hall2 t ht).1
          have hjl := (List.getElem?_eq_some_iff.1 hy).1
          rw [flat_size hz1, List.length_map, htl] at hjl
          have hq : j / de.size < n := Nat.div_lt_of_lt_mul (by rw [Nat.mul_comm]; exact hjl)
          have hm := Nat.mod_lt j c2
          have hdm := Nat.div_add_mod j de.size
          have hts : ts[j / de.size]? = some ts[j / de.size] := List.getElem?_eq_getElem (by omega)
          obtain ⟨v, hv, hr⟩ := cell _ _ hts
          obtain ⟨q1, q2⟩ := cellsT_get hr
          have hlen := (hall2 _ (List.mem_of_getElem? hts)).1
          have hcy : (cellsT ts[j / de.size])[j % de.size]? = some y := by
            have hin : (ts.map cellsT)[j / de.size]? = some (cellsT ts[j / de.size]) := by rw [List.getElem?_map, hts]; rfl
            have he2 : (cellsT ts[j / de.size])[j % de.size]? = some (cellsT ts[j / de.size])[j % de.size] := List.getElem?_eq_getElem (by omega)
            have := flat_in hz1 hin he2
            rw [show j / de.size * de.size + j % de.size = j by rw [Nat.mul_comm]; omega, hy] at this
            rw [he2, ← this]
          obtain ⟨c, hc, hcr⟩ := q2 _ y hcy
          refine ⟨c, ?_, List.all_eq_true.1 (hall2 _ (List.mem_of_getElem? hts)).2 y (List.mem_of_getElem? hcy), hcr⟩
          rw [Great.flat_get c2 vs hvz j, hv]
          exact hc) dst
      exact ⟨ι', _, _, _, hrun, hR, hk⟩
    · obtain ⟨hall, hk⟩ := hk
      generalize hts : parts.toList.map (fun p => s.ev p.2) = ts at hev hall
      have g2 : ts.length = parts.toList.length := by rw [← hts, List.length_map]
      have hmap : (parts.toList.map fun p => cellsA (s.ev p.2)) = ts.map cellsA := by rw [← hts, List.map_map]; rfl
      rw [hmap] at hk
      generalize hvs : parts.toList.map (fun p => a.eval p.2) = vs at hev
      have hpl : parts.toList.length = n := by have := congrArg List.length c1; simpa using this
      have hvl : vs.length = n := by rw [← hvs]; simpa using hpl
      have htl : ts.length = n := by rw [g2]; exact hpl
      have cell : ∀ (j : Nat) t, ts[j]? = some t → ∃ v, vs[j]? = some v ∧ Ra w (Sd B St s.o ι w) s.o ι v t := fun j t ht => by
        have hj : j < vs.length := by have := (List.getElem?_eq_some_iff.1 ht).1; omega
        refine ⟨vs[j], List.getElem?_eq_getElem hj, ?_⟩
        have := hev j t ht
        rwa [show vs.getD j undef = vs[j] by simp [hj]] at this
      have hall2 : ∀ t ∈ ts, (cellsA t).length = de.size ∧ (cellsA t).all A.leaf = true := fun t ht => by
        have := List.all_eq_true.1 hall t ht
        rw [Bool.and_eq_true, beq_iff_eq] at this
        exact this
      have hvz : ∀ v ∈ vs, v.cells.size = de.size := fun v hv => by
        obtain ⟨j, hj⟩ := List.getElem?_of_mem hv
        have hjl : j < ts.length := by have := (List.getElem?_eq_some_iff.1 hj).1; omega
        obtain ⟨v', hv', hr⟩ := cell j _ (List.getElem?_eq_getElem hjl)
        rw [hj] at hv'
        cases hv'
        rw [(cells_get hr (hall2 _ (List.getElem_mem hjl)).2).1]
        exact (hall2 _ (List.getElem_mem hjl)).1
      have hf := Great.fill_whole c2 vs ((Array.range (n * de.size)).map (z.cells[· % z.cells.size]!)) hvz (by simp [hvl])
      rw [← hvs, ← zip_eval a parts n c1, hvs] at hf
      have hrun := run_buildSlice (P := P) w ty e n (parts.map fun (i, x) => (i, a.eval x)) _ i z hu i1 i4 (by rw [i2]; omega) (by rw [i2]; exact Nat.ne_of_gt (Nat.mul_pos c3 c2)) (by rw [i2]; exact hf)
      have hsz : (vs.flatMap fun v => v.cells.toList).length = n * de.size := by
        have e1 := flat_size (l := vs.map fun v => v.cells.toList) (z := de.size) (fun x hx => by obtain ⟨v, hv, rfl⟩ := List.mem_map.1 hx; simpa using hvz v hv)
        rw [List.flatMap_def, e1, List.length_map, hvl]
      obtain ⟨ι', hR⟩ := newrowA_ok h (cls d) e de.size (ts.map cellsA) (.slice (some ⟨w.heap.size, 0, none⟩) n n) (w.alloc (.cells (vs.flatMap fun v => v.cells.toList).toArray e)) (vs.flatMap fun v => v.cells.toList)
        ((Below.refl _ w).alloc (Nat.le_refl _) _) (by
          have := World.ownsRow_lit (base := w.heap.size) (e := e) (size := de.size) w (vs.flatMap fun v => v.cells.toList).toArray n (Nat.le_refl _) (by simp only [maxLen]; have := Nat.le_mul_of_pos_right n c2; omega) (by simpa using hsz)
          simpa [htl] using this)
        (fun x hx => by obtain ⟨t, ht, rfl⟩ := List.mem_map.1 hx; exact (hall2 t ht).1)
        (fun j y hy => by
          have hz1 : ∀ x ∈ ts.map cellsA, x.length = de.size := fun x hx => by obtain ⟨t, ht, rfl⟩ := List.mem_map.1 hx; exact (hall2 t ht).1
          have hjl := (List.getElem?_eq_some_iff.1 hy).1
          rw [flat_size hz1, List.length_map, htl] at hjl
          have hq : j / de.size < n := Nat.div_lt_of_lt_mul (by rw [Nat.mul_comm]; exact hjl)
          have hm := Nat.mod_lt j c2
          have hdm := Nat.div_add_mod j de.size
          have hts' : ts[j / de.size]? = some ts[j / de.size] := List.getElem?_eq_getElem (by omega)
          obtain ⟨v, hv, hr⟩ := cell _ _ hts'
          obtain ⟨q1, q2⟩ := cells_get hr (hall2 _ (List.mem_of_getElem? hts')).2
          have hlen := (hall2 _ (List.mem_of_getElem? hts')).1
          have hcy : (cellsA ts[j / de.size])[j % de.size]? = some y := by
            have hin : (ts.map cellsA)[j / de.size]? = some (cellsA ts[j / de.size]) := by rw [List.getElem?_map, hts']; rfl
            have he2 : (cellsA ts[j / de.size])[j % de.size]? = some (cellsA ts[j / de.size])[j % de.size] := List.getElem?_eq_getElem (by omega)
            have := flat_in hz1 hin he2
            rw [show j / de.size * de.size + j % de.size = j by rw [Nat.mul_comm]; omega, hy] at this
            rw [he2, ← this]
          obtain ⟨c, hc, hcr⟩ := q2 _ y hcy
          refine ⟨c, ?_, List.all_eq_true.1 (hall2 _ (List.mem_of_getElem? hts')).2 y (List.mem_of_getElem? hcy), hcr⟩
          rw [Great.flat_get c2 vs hvz j, hv]
          exact hc) dst
      exact ⟨ι', _, _, _, hrun, hR, hk⟩
  · exact hk.elim

theorem rep_flat {α : Type} (t : α) : ∀ m : Nat, (List.replicate m [t]).flatten = List.replicate m t
  | 0 => rfl
  | m + 1 => by rw [List.replicate_succ, List.flatten_cons, rep_flat t m, List.replicate_succ]; rfl
theorem makeSlice_ok (h : Rel Hy X B St w0 Dp s ι a w) (hT : Tys.ok P tt) {K : S → Prop} {dst : Option Nat} {cls : Nat → Nat} {ty : TypeId} {n c : Operand} (hk : Ek P Hy tt cls dst (.makeSlice ty n c) s K) :
    ∃ ι' s' v w', (Instr.makeSlice ty (a.eval n) (a.eval c)).run P w = .ok v w' ∧ Rel Hy X B St w0 Dp s' ι' (a.put dst v) w' ∧ K s' := by
  obtain ⟨d, _, hk⟩ := optK_get hk
  obtain ⟨td, hd, hk⟩ := optK_get hk
  split at hk
  · rename_i e he
    obtain ⟨de, hde, hk⟩ := optK_get hk
    obtain ⟨u, hu, hok⟩ := (hT _ _ hd).desc
    obtain ⟨hok, _⟩ := hok
    rw [he] at hok
    simp only [TK.ok] at hok
    subst hok
    obtain ⟨i, z, i1, i2, i3, i4, i5⟩ := (hT _ _ hde).info
    split at hk
    · rename_i k x k' m zv e1 e2 e3
      obtain ⟨rfl, h0, hle, hz1, hby, hk⟩ := hk
      have hn := h.ev n
      rw [e1] at hn
      have hc := h.ev c
      rw [e2] at hc
      have hzc : z.cells = #[zv] := by rw [e3] at i5; exact Array.toList_inj.1 i5
      obtain ⟨w', r1, r2, r3⟩ := run_makeSlice_full (P := P) w w.heap.size ty e i z 1 hu i1 i4 (by omega) k k' x.toNat (by omega) (by rw [i3]; calc de.bytes * x.toNat ≤ 1000 * x.toNat := Nat.mul_le_mul_right _ hby
          _ ≤ 281474976710656 := by omega) (by simp only [maxLen]; omega) (Nat.le_refl _)
      rw [hn.int, hc.int]
      rw [show ((x.toNat : Nat) : Int) = x by omega] at r1
      rw [hzc, Nat.mul_one, toList_madeCells_one] at r2
      have hb : Below w.heap.size w w' := (Below.refl _ w).grown r3 (Nat.le_refl _) (fun _ e => (by cases e))
      have row : ∀ t : T, t.leaf = true → Rt w (Sd B St s.o ι w) zv t → ∃ ι', Rel Hy X B St w0 Dp ((s.ob (cls d) ⟨(s.o (cls d)).gen + 1, .row e 1 (List.replicate x.toNat [t])⟩).put dst (.row (cls d) ((s.o (cls d)).gen + 1))) ι' (a.put dst (.slice (some ⟨w.heap.size, 0, none⟩) x.toNat x.toNat)) w' := fun t ht hr =>
        newrow_ok h (cls d) e 1 (List.replicate x.toNat [t]) _ w' _ hb (by simpa using r2) (fun y hy => by rw [List.eq_of_mem_replicate hy]; rfl) (fun j y hy => by
          rw [rep_flat, List.getElem?_replicate] at hy
          split at hy
          · rename_i hj
            cases hy
            exact ⟨zv, by rw [List.getElem?_replicate, if_pos hj], ht, hr⟩
          · cases hy) dst
      have hcz := const_c (w := w) (ι := ι) (Sd B St s.o ι w) s.o zv
      split at hk
      · rename_i t ht
        rw [ht] at hcz
        have hleaf : t.leaf = true := by
          revert ht
          unfold constC
          split <;> intro ht <;> cases ht <;> rfl
        obtain ⟨ι', hR⟩ := row t hleaf hcz.dat
        exact ⟨ι', _, _, w', r1, hR, hk⟩
      · rename_i ht
        rw [ht] at hcz
        obtain ⟨ι', hR⟩ := row (.sl []) rfl (by rw [hcz.nil_get]; exact .sl0 _ _ (fun _ => rfl))
        exact ⟨ι', _, _, w', r1, hR, hk⟩
      · exact hk.elim
    · exact hk.elim
  · exact hk.elim

theorem src_ok (h : Rel Hy X B St w0 Dp s ι a w) {z : Nat} {v : Value} {x : A} (hx : Ra w (Sd B St s.o ι w) s.o ι v x) {K : List (List T) → Prop} (hk : srcK s.o z x K) : ∃ l, Src w (Sd B St s.o ι w) v z l ∧ (∀ e ∈ l, e.length = z) ∧ K l := by
  unfold srcK at hk
  split at hk
  · rename_i l
    exact ⟨l, src_rt hx.dat hk.1, hk.1, hk.2⟩
  · exact ⟨[], .inl ⟨hx.nil_get, rfl⟩, fun _ h => (by cases h), hk⟩
  · rename_i id g
    obtain ⟨hg, hk⟩ := hk
    have hv := hx.row_get hg
    have ho := h.ob id
    split at hk
    · rename_i ty z' l hkk
      obtain ⟨rfl, hk⟩ := hk
      rw [hkk] at ho
      obtain ⟨h1, xs, h2, h3⟩ := ho
      refine ⟨l, ?_, h1, hk⟩
      rw [hv]
      have hx2 := h2
      rcases h2.2 with ⟨h4, h5⟩ | ⟨g', cap, cur, h4, hb, hg2, _⟩
      · exact .inl ⟨h4, List.length_eq_zero_iff.1 h5⟩
      · rw [h4] at hx2 ⊢
        refine .inr ⟨_, _, _, xs, rfl, rfl, h2.1, fun j u hu => hx2.cells (g := g') rfl j u hu, h3⟩
    · rename_i l hkk
      rw [hkk] at ho
      exact ⟨l, by rw [hv]; exact src_rt ho hk.1, hk.1, hk.2⟩
    · exact hk.elim
  · exact hk.elim

theorem srcA_ok (h : Rel Hy X B St w0 Dp s ι a w) {z : Nat} {v : Value} {x : A} (hx : Ra w (Sd B St s.o ι w) s.o ι v x) {K : List (List A) → Prop} (hk : srcA s.o z x K) : ∃ l, SrcA w (Sd B St s.o ι w) s.o ι v z l ∧ (∀ e ∈ l, e.length = z) ∧ K l := by
  unfold srcA at hk
  split at hk
  · split at hk
    · rename_i id g _
      obtain ⟨hg, hk⟩ := hk
      have hv := hx.row_get hg
      have ho := h.ob id
      split at hk
      · rename_i ty z' l hkk
        obtain ⟨rfl, hk⟩ := hk
        rw [hkk] at ho
        obtain ⟨h1, xs, h2, h3⟩ := ho
        refine ⟨l, ?_, h1, hk⟩
        rw [hv]
        have hx2 := h2
        rcases h2.2 with ⟨h4, h5⟩ | ⟨g', cap, cur, h4, hb, hg2, _⟩
        · exact .inl ⟨h4, List.length_eq_zero_iff.1 h5⟩
        · rw [h4] at hx2 ⊢
          refine .inr ⟨_, _, _, xs, rfl, rfl, h2.1, fun j u hu => hx2.cells (g := g') rfl j u hu, h3⟩
      · exact hk.elim
    · exact hk.elim
  · obtain ⟨l, h1, h2, hk⟩ := src_ok h hx hk
    refine ⟨_, h1.up _ _, fun e he => ?_, hk⟩
    obtain ⟨e', he', rfl⟩ := List.mem_map.1 he
    rw [List.length_map]
    exact h2 e' he'

theorem append_types {t t' e e' ty : TypeId} (h : P.underlying t = some (.slice e)) (h' : P.underlying t' = some (.slice e')) (args : Array Value) : (Builtin.append_ #[t, t'] ty args).run P w = (Builtin.append_ #[t, t] ty args).run P w := by
  unfold Builtin.append_
  cases h0 : args[0]? with
  | none => rfl
  | some s => cases h1 : args[1]? with
    | none => rfl
    | some x => cases s <;> simp [run_underlying h, run_underlying h']
theorem append_ok (h : Rel Hy X B St w0 Dp s ι a w) (hT : Tys.ok P tt) {K : S → Prop} {dst : Option Nat} {cls : Nat → Nat} {args : List Operand} {tys : List TypeId} (hk : apK tt cls dst (args.map s.ev) tys s K) (ty : TypeId) (cs : Array Bool) :
    ∃ ι' s' v w', (builtin .append tys.toArray ty cs (args.map a.eval).toArray).run P w = .ok (.value v) w' ∧ Rel Hy X B St w0 Dp s' ι' (a.put dst v) w' ∧ K s' := by
  unfold apK at hk
  split at hk
  · rename_i x y t t' hargs
    obtain ⟨x0, y0, rfl, rfl, rfl⟩ : ∃ x0 y0, args = [x0, y0] ∧ s.ev x0 = x ∧ s.ev y0 = y := by
      match args, hargs with
      | [x0, y0], e => exact ⟨x0, y0, rfl, by simpa using e⟩
    obtain ⟨d, hdd, hk⟩ := optK_get hk
    obtain ⟨td, hd, hk⟩ := optK_get hk
    by_cases htt : t = t' ∨ isSl tt t' = true
    · simp only [if_pos htt] at hk
      split at hk
      · rename_i e he
        obtain ⟨de, hde, ⟨hpos, hzl⟩, hk⟩ := optK_get hk
        have hx := h.ev x0
        have same : (Builtin.append_ #[t, t'] ty #[a.eval x0, a.eval y0]).run P w = (Builtin.append_ #[t, t] ty #[a.eval x0, a.eval y0]).run P w := by
          rcases htt with rfl | htt
          · rfl
          · unfold isSl at htt
            split at htt
            · rename_i d' hd'
              split at htt
              · rename_i e' he'
                obtain ⟨u1, hu1, hok1⟩ := (hT _ _ hd).desc
                obtain ⟨u2, hu2, hok2⟩ := (hT _ _ hd').desc
                rw [he] at hok1
                rw [he'] at hok2
                have hok1 := hok1.1
                have hok2 := hok2.1
                simp only [TK.ok] at hok1 hok2
                subst hok1 hok2
                exact append_types hu1 hu2 _
              · cases htt
            · cases htt
        have fin : ∀ {v : Value} {w' : World}, (Builtin.append_ #[t, t] ty #[a.eval x0, a.eval y0]).run P w = .ok v w' → (builtin .append #[t, t'] ty cs #[a.eval x0, a.eval y0]).run P w = .ok (.value v) w' := fun hr => run_val _ (same.trans hr)
        split at hk
        · obtain ⟨m, hsrc, hml, hk⟩ := srcA_ok h (h.ev y0) hk
          split at hk
          · rename_i e1
            rw [e1] at hx
            obtain ⟨⟨hb1, hb2⟩, hk⟩ := hk
            obtain ⟨ι', v', w', r1, r2⟩ := append_rowA (P := P) h hT hd he hde hpos hzl ty (cls d) (a.eval x0) (a.eval y0) [] m ((s.o (cls d)).gen + 1) (.inl ⟨hx.nil_get, rfl⟩) (fun _ h => (by cases h)) hml hsrc (Nat.lt_succ_self _) (by simpa using hb1) (by simpa using hb2) dst
            exact ⟨ι', _, v', w', fin r1, r2, hk⟩
          · rename_i id g e1
            rw [e1] at hx
            obtain ⟨hg, hk⟩ := hk
            split at hk
            · rename_i e' z l hkk
              obtain ⟨rfl, rfl, ⟨hb1, hb2⟩, hk⟩ := hk
              have ho := h.ob id
              rw [hkk] at ho
              obtain ⟨ι', v', w', r1, r2⟩ := append_rowA (P := P) h hT hd he hde hpos hzl ty id (a.eval x0) (a.eval y0) (l.map fun e => e.map .t) m (g + 1) (.inr (.inr ⟨hx.row_get hg, _, rfl, hkk⟩)) (fun x hx => by obtain ⟨x', hx', rfl⟩ := List.mem_map.1 hx; rw [List.length_map]; exact ho.1 x' hx') hml hsrc (by rw [hg]; exact Nat.lt_succ_self _) (by rw [List.length_map]; exact hb1) (by rw [List.length_map]; exact hb2) dst
              exact ⟨ι', _, v', w', fin r1, r2, hk⟩
            · rename_i e' z l hkk
              obtain ⟨rfl, rfl, ⟨hb1, hb2⟩, hk⟩ := hk
              have ho := h.ob id
              rw [hkk] at ho
              obtain ⟨ι', v', w', r1, r2⟩ := append_rowA (P := P) h hT hd he hde hpos hzl ty id (a.eval x0) (a.eval y0) l m (g + 1) (.inr (.inl ⟨hx.row_get hg, hkk⟩)) ho.1 hml hsrc (by rw [hg]; exact Nat.lt_succ_self _) hb1 hb2 dst
              exact ⟨ι', _, v', w', fin r1, r2, hk⟩
            · exact hk.elim
          · exact hk.elim
        · obtain ⟨m, hsrc, hml, hk⟩ := src_ok h (h.ev y0) hk
          split at hk
          · rename_i e1
            rw [e1] at hx
            obtain ⟨⟨hb1, hb2⟩, hk⟩ := hk
            obtain ⟨ι', v', w', r1, r2⟩ := append_row (P := P) h hT hd he hde hpos hzl ty (cls d) (a.eval x0) (a.eval y0) [] m ((s.o (cls d)).gen + 1) (.inl ⟨hx.nil_get, rfl⟩) (fun _ h => (by cases h)) hml hsrc (Nat.lt_succ_self _) (by simpa using hb1) (by simpa using hb2) dst
            exact ⟨ι', _, v', w', fin r1, r2, hk⟩
          · rename_i id g e1
            rw [e1] at hx
            obtain ⟨hg, hk⟩ := hk
            split at hk
            · rename_i e' z l hkk
              obtain ⟨rfl, rfl, ⟨hb1, hb2⟩, hk⟩ := hk
              have ho := h.ob id
              rw [hkk] at ho
              obtain ⟨ι', v', w', r1, r2⟩ := append_row (P := P) h hT hd he hde hpos hzl ty id (a.eval x0) (a.eval y0) l m (g + 1) (.inr ⟨hx.row_get hg, _, rfl, hkk⟩) ho.1 hml hsrc (by rw [hg]; exact Nat.lt_succ_self _) hb1 hb2 dst
              exact ⟨ι', _, v', w', fin r1, r2, hk⟩
            · exact hk.elim
          · exact hk.elim
      · exact hk.elim
    · simp only [if_neg htt] at hk
      split at hk
      · rename_i e he
        obtain ⟨de, hde, hk⟩ := optK_get hk
        obtain ⟨dt, hdt, ⟨hz1, kn, hkn⟩, hk⟩ := optK_get hk
        obtain ⟨u1, hu1, hok1⟩ := (hT _ _ hd).desc
        obtain ⟨u2, hu2, hok2⟩ := (hT _ _ hdt).desc
        rw [he] at hok1
        rw [hkn] at hok2
        have hok1 := hok1.1
        have hok2 := hok2.1
        simp only [TK.ok] at hok1 hok2
        subst hok1 hok2
        obtain ⟨i, z, i1, i2, i3, i4, i5⟩ := (hT _ _ hde).info
        have hx := h.ev x0
        have hy := h.ev y0
        split at hk
        · rename_i k n zv e1 e2 e3
          rw [e1] at hx
          rw [e2] at hy
          obtain ⟨⟨h0, hle, hby⟩, hk⟩ := hk
          have hzc : z.cells = #[zv] := by rw [e3] at i5; exact Array.toList_inj.1 i5
          have r1 := Lib.run_append_nil_zeros (P := P) w t t' ty e i z k kn hu1 hu2 i1 i4 n.toNat (by omega) (by omega) (by omega) (by rw [i3]; calc n.toNat * de.bytes ≤ n.toNat * 1000 := Nat.mul_le_mul_left _ hby
            _ ≤ 281474976710656 := by omega)
          rw [show ((n.toNat : Nat) : Int) = n by omega] at r1
          have hge := grownCap_ge w n.toNat 0 e
          have hcm := grownCap_le_maxLen w n.toNat 0 e (by simp only [maxLen]; omega)
          have zc : ∀ m, (Builtin.zeroCells z.cells m).toList = List.replicate m zv := fun m => by
            rw [hzc]
            apply List.ext_getElem?
            intro j
            simp only [Builtin.zeroCells, List.getElem?_replicate]
            by_cases hj : j < m
            · simp [hj, Nat.mod_one]
            · simp [hj]
          have hown : (w.drew.alloc (.cells (Builtin.zeroCells z.cells n.toNat ++ Builtin.zeroCells z.cells (grownCap w n.toNat 0 e - n.toNat)) e)).ownsRow w.heap.size e 1 (.slice (some ⟨w.heap.size, 0, none⟩) n.toNat (grownCap w n.toNat 0 e)) n.toNat (List.replicate n.toNat zv) := by
            refine ⟨by simp, .inr ⟨w.heap.size, _, _, rfl, Nat.le_refl _, heap_alloc_new w.drew _, hge, hcm, ?_, ?_⟩⟩
            · have q1 := congrArg List.length (zc n.toNat)
              have q2 := congrArg List.length (zc (grownCap w n.toNat 0 e - n.toNat))
              simp only [Array.length_toList, List.length_replicate] at q1 q2
              rw [Array.size_append, q1, q2]
              omega
            · rw [Array.toList_append, zc, zc, Nat.mul_one]
              exact List.take_left' (by simp)
          have hb : Below w.heap.size w (w.drew.alloc (.cells (Builtin.zeroCells z.cells n.toNat ++ Builtin.zeroCells z.cells (grownCap w n.toNat 0 e - n.toNat)) e)) := ((Below.refl _ w).drew).alloc (Nat.le_refl _) _
          split at hk
          · rename_i u hcu
            have hcz := const_c (w := w) (ι := ι) (Sd B St s.o ι w) s.o zv
            rw [hcu] at hcz
            have hleaf : u.leaf = true := by
              revert hcu
              unfold constC
              split <;> intro hcu <;> cases hcu <;> rfl
            obtain ⟨ι', hR⟩ := newrow_ok h (cls d) e 1 (List.replicate n.toNat [u]) _ _ _ hb (by simpa using hown) (fun y hy => by rw [List.eq_of_mem_replicate hy]; rfl) (fun j y hy => by
              rw [rep_flat, List.getElem?_replicate] at hy
              split at hy
              · rename_i hj
                cases hy
                exact ⟨zv, by rw [List.getElem?_replicate, if_pos hj], hleaf, hcz.dat⟩
              · cases hy) dst
            refine ⟨ι', _, _, _, ?_, hR, hk⟩
            have hv : a.eval x0 = .slice none 0 0 := hx.nil_get
            have hv2 := hy.int
            show (builtin .append #[t, t'] ty cs #[a.eval x0, a.eval y0]).run P w = _
            rw [hv, hv2]
            exact run_val _ r1
          · rename_i hcu
            have hcz := const_c (w := w) (ι := ι) (Sd B St s.o ι w) s.o zv
            rw [hcu] at hcz
            obtain ⟨ι', hR⟩ := newrow_ok h (cls d) e 1 (List.replicate n.toNat [.sl []]) _ _ _ hb (by simpa using hown) (fun y hy => by rw [List.eq_of_mem_replicate hy]; rfl) (fun j y hy => by
              rw [rep_flat, List.getElem?_replicate] at hy
              split at hy
              · rename_i hj
                cases hy
                exact ⟨zv, by rw [List.getElem?_replicate, if_pos hj], rfl, by rw [hcz.nil_get]; exact .sl0 _ _ (fun _ => rfl)⟩
              · cases hy) dst
            refine ⟨ι', _, _, _, ?_, hR, hk⟩
            have hv : a.eval x0 = .slice none 0 0 := hx.nil_get
            have hv2 := hy.int
            show (builtin .append #[t, t'] ty cs #[a.eval x0, a.eval y0]).run P w = _
            rw [hv, hv2]
            exact run_val _ r1
          · exact hk.elim
        · exact hk.elim
      · exact hk.elim
  · exact hk.elim

theorem slB_get {b : Option Operand} {d : Int} {K : Int → Prop} (h : Rel Hy X B St w0 Dp s ι a w) (hk : slB (b.map s.ev) d K) : ∃ n, K n ∧ ((b = none ∧ b.map a.eval = none ∧ n = d) ∨ ∃ k, b.map a.eval = some (.int k n)) := by
  cases b with
  | none => exact ⟨d, hk, .inl ⟨rfl, rfl, rfl⟩⟩
  | some x =>
    simp only [slB, Option.map_some] at hk
    split at hk
    · rename_i e
      cases e
    · rename_i k n e
      have hx := h.ev x
      rw [Option.some.inj e] at hx
      exact ⟨n, hk, .inr ⟨k, by rw [Option.map_some, hx.int]⟩⟩
    · exact hk.elim
theorem slice_run {ty e : TypeId} (hu : P.underlying ty = some (.slice e)) {de : TD} (te : TdOk P e de) (p : Option Addr) (len cap : Nat) (lo hi : Option Value) (l h : Int) (hl : (lo = none ∧ l = 0) ∨ ∃ k, lo = some (.int k l)) (hh : (hi = none ∧ h = len) ∨ ∃ k, hi = some (.int k h))
    (h0 : 0 ≤ l) (h1 : l ≤ h) (h2 : h ≤ len) (h3 : len ≤ cap) : (Instr.sliceAt ty (.slice p len cap) lo hi none).run P w = .ok (sliced p l.toNat h.toNat cap de.size) w := by
  have he : P.elem ty = e := by simp [Program.elem, hu]
  have hu2 : P.underlying ty = some (.slice (P.elem ty)) := by rw [he]; exact hu
  have sz : (sizeOf (P.elem ty)).run P w = .ok de.size w := by rw [he]; exact te.size
  rw [run_sliceAt_slice w ty _ _ _ _ hu2]
  rcases hl with ⟨rfl, rfl⟩ | ⟨kl, rfl⟩
  · rcases hh with ⟨rfl, rfl⟩ | ⟨kh, rfl⟩
    · rw [run_slice_all w ty p len cap hu2, sz]
      rfl
    · rw [run_slice_h w ty p len cap hu2 kh h (by omega) (by omega), sz]
      rfl
  · rcases hh with ⟨rfl, rfl⟩ | ⟨kh, rfl⟩
    · rw [run_slice_l w ty p len cap hu2 kl l (by omega) (by omega), sz]
      rfl
    · rw [run_slice_lh w ty p len cap hu2 kl kh l h (by omega) (by omega) (by omega), sz]
      rfl
theorem str_slice_run {ty : TypeId} (hu : P.underlying ty = some .string) (b : ByteArray) (lo hi : Option Value) (l h : Int) (hl : (lo = none ∧ l = 0) ∨ ∃ k, lo = some (.int k l)) (hh : (hi = none ∧ h = b.size) ∨ ∃ k, hi = some (.int k h))
    (h0 : 0 ≤ l) (h1 : l ≤ h) (h2 : h ≤ b.size) : (Instr.sliceAt ty (.string b) lo hi none).run P w = .ok (.string (b.extract l.toNat h.toNat)) w := by
  rw [run_sliceAt_string w ty _ _ _ _ hu]
  rcases hl with ⟨rfl, rfl⟩ | ⟨kl, rfl⟩
  · rcases hh with ⟨rfl, rfl⟩ | ⟨kh, rfl⟩
    · exact run_slice_string_all w ty b hu
    · exact run_slice_string_h w ty b hu kh h (by omega) (by omega)
  · rcases hh with ⟨rfl, rfl⟩ | ⟨kh, rfl⟩
    · exact run_slice_string_l w ty b hu kl l (by omega) (by omega)
    · exact run_slice_string w ty b kl kh l h hu (by omega) (by omega) (by omega)

theorem flat_drop {α : Type} {z : Nat} : ∀ {l : List (List α)} (i : Nat), (∀ e ∈ l, e.length = z) → (l.drop i).flatten = l.flatten.drop (i * z)
  | l, 0, _ => by simp
  | [], i + 1, _ => by simp
  | x :: l, i + 1, h => by
    rw [List.drop_succ_cons, flat_drop i (fun e he => h e (List.mem_cons_of_mem _ he)), List.flatten_cons, show (i + 1) * z = x.length + i * z by rw [h x List.mem_cons_self, Nat.add_mul]; omega, List.drop_length_add_append]
theorem flat_take_pre {α : Type} {l : List (List α)} {n j : Nat} {t : α} (h : (l.take n).flatten[j]? = some t) : l.flatten[j]? = some t := by
  have : l.flatten = (l.take n).flatten ++ (l.drop n).flatten := by rw [← List.flatten_append, List.take_append_drop]
  rw [this, List.getElem?_append_left (List.getElem?_eq_some_iff.1 h).1]
  exact h
theorem sub_rt {D : Nat → Prop} {v : Value} {xs : List (List T)} {z : Nat} (h : Rt w D v (.sl xs)) (hz : ∀ c ∈ xs, c.length = z) : ∃ p cap, v = .slice p xs.length cap ∧ xs.length ≤ cap ∧ ∀ l h : Nat, l ≤ h → h ≤ xs.length → Rt w D (sliced p l h cap z) (.sl ((xs.drop l).take (h - l))) := by
  cases h with
  | sl0 p cap hp =>
    refine ⟨p, cap, rfl, Nat.zero_le _, fun l h h1 h2 => ?_⟩
    have : h = 0 := by simpa using h2
    subst this
    have : l = 0 := by omega
    subst this
    unfold sliced
    simp only [List.drop_nil, List.take_nil, Nat.sub_self, Nat.sub_zero]
    refine .sl0 _ _ (fun e => ?_)
    split at e
    · exact hp e
    · cases p with
      | none => exact hp rfl
      | some a => cases e
  | sl g o n cap z' _ c hn hq hD hz' hc hl hr =>
    subst hn
    refine ⟨_, cap, rfl, hq, fun l h h1 h2 => ?_⟩
    unfold sliced
    by_cases hlh : l = h
    · subst hlh
      rw [Nat.sub_self, List.take_zero]
      refine .sl0 _ _ (fun e => ?_)
      split at e <;> cases e
    · have hne : cap ≠ l := by omega
      have hzz : z' = z := by
        have hm : xs[l]? = some xs[l] := List.getElem?_eq_getElem (by omega)
        rw [← hz' _ (List.mem_of_getElem? hm), hz _ (List.mem_of_getElem? hm)]
      subst hzz
      rw [if_neg hne, Option.map_some, Addr.add_mid]
      have hsub : ∀ e ∈ (xs.drop l).take (h - l), e.length = z' := fun e he => hz' e (List.mem_of_mem_drop (List.mem_of_mem_take he))
      have hlen : ((xs.drop l).take (h - l)).length = h - l := by simp; omega
      have get : ∀ (j : Nat) t, ((xs.drop l).take (h - l)).flatten[j]? = some t → xs.flatten[l * z' + j]? = some t := fun j t ht => by
        have := flat_take_pre ht
        rwa [flat_drop l hz', List.getElem?_drop] at this
      refine .sl g (o + l * z') _ _ z' _ (fun j => c (l * z' + j)) hlen.symm (by omega) hD hsub (fun j hj => ?_) (fun j t ht => hl _ t (get j t ht)) (fun j t ht => hr _ t (get j t ht))
      rw [Nat.add_assoc]
      refine hc _ ?_
      rw [hlen] at hj
      calc l * z' + j < l * z' + (h - l) * z' := by omega
        _ = (l + (h - l)) * z' := (Nat.add_mul _ _ _).symm
        _ ≤ xs.length * z' := Nat.mul_le_mul_right _ (by omega)

theorem slice_ok (h : Rel Hy X B St w0 Dp s ι a w) (hT : Tys.ok P tt) {K : S → Prop} {dst : Option Nat} {cls : Nat → Nat} {ty : TypeId} {x : Operand} {lo hi mx : Option Operand} (hk : Ek P Hy tt cls dst (.slice ty x lo hi mx) s K) :
    ∃ ι' s' v, (Instr.sliceAt ty (a.eval x) (lo.map a.eval) (hi.map a.eval) (mx.map a.eval)).run P w = .ok v w ∧ Rel Hy X B St w0 Dp s' ι' (a.put dst v) w ∧ K s' := by
  obtain ⟨rfl, hk⟩ := hk
  obtain ⟨d, _, hk⟩ := optK_get hk
  obtain ⟨td, hd, hk⟩ := optK_get hk
  obtain ⟨u, hu, hok⟩ := (hT _ _ hd).desc
  have hok := hok.1
  have hx := h.ev x
  split at hk
  · rename_i b e1 e2
    rw [e1] at hok
    simp only [TK.ok] at hok
    subst hok
    rw [e2] at hx
    obtain ⟨l, hk, hl⟩ := slB_get h hk
    obtain ⟨r, ⟨⟨h0, h1, h2⟩, hk⟩, hr⟩ := slB_get h hk
    rw [hx.str]
    exact ⟨ι, _, _, str_slice_run hu b _ _ l r (hl.imp (fun q => q.2) id) (hr.imp (fun q => q.2) id) h0 h1 h2, h.pure _ _ _ (fun _ => .t (.s _)), hk⟩
  · rename_i e xs e1 e2
    rw [e1] at hok
    simp only [TK.ok] at hok
    subst hok
    rw [e2] at hx
    obtain ⟨de, hde, hk⟩ := optK_get hk
    obtain ⟨l, hk, hl⟩ := slB_get h hk
    obtain ⟨r, ⟨⟨h0, h1, h2⟩, hz, hk⟩, hr⟩ := slB_get h hk
    obtain ⟨p, cap, hv, hc, hsub⟩ := sub_rt hx.dat hz
    rw [hv]
    refine ⟨ι, _, _, slice_run hu (hT _ _ hde) p xs.length cap _ _ l r (hl.imp (fun q => q.2) id) (hr.imp (fun q => q.2) id) h0 h1 h2 hc, h.pure _ _ _ (fun _ => .t ?_), hk⟩
    have := hsub l.toNat r.toNat (by omega) (by omega)
    rwa [show r.toNat - l.toNat = (r - l).toNat by omega] at this
  · rename_i e e1 e2
    rw [e1] at hok
    simp only [TK.ok] at hok
    subst hok
    rw [e2] at hx
    obtain ⟨de, hde, hk⟩ := optK_get hk
    obtain ⟨l, hk1, hl⟩ := slB_get h hk
    obtain ⟨r, ⟨⟨hl0, hr0⟩, hk2⟩, hr⟩ := slB_get h hk1
    rw [hl0] at hl
    rw [hr0] at hr
    rw [hx.nil_get]
    exact ⟨ι, _, _, slice_run hu (hT _ _ hde) none 0 0 _ _ 0 0 (hl.imp (fun q => q.2) (fun q => q)) (hr.imp (fun q => q.2) (fun q => q)) (Int.le_refl _) (Int.le_refl _) (Int.le_refl _) (Nat.le_refl _), h.pure _ _ _ (fun _ => .nilS), hk2⟩
  · rename_i e id g e1 e2
    rw [e1] at hok
    simp only [TK.ok] at hok
    subst hok
    rw [e2] at hx
    obtain ⟨hg, hlo, hk⟩ := hk
    have hv := hx.row_get hg
    cases hkk : (s.o id).k with
    | none => rw [hkk] at hk; exact hk.elim
    | cells ty l => rw [hkk] at hk; exact hk.elim
    | ro l => rw [hkk] at hk; exact hk.elim
    | rowA ty z l => rw [hkk] at hk; exact hk.elim
    | map ks l => rw [hkk] at hk; exact hk.elim
    | row e' z l =>
      rw [hkk] at hk
      obtain ⟨he, ⟨de, hde, hz⟩, hk⟩ := hk
      subst he hz
      obtain ⟨r, ⟨⟨h0, h1⟩, hk⟩, hr⟩ := slB_get h hk
      have ho := h.ob id
      rw [hkk] at ho
      obtain ⟨k1, xs, k2, k3⟩ := ho
      have hlm : lo.map a.eval = none := by rw [hlo]; rfl
      have hxl : xs.length = l.length * de.size := k2.1
      have hsub : ∀ c ∈ l.take r.toNat, c.length = de.size := fun c hc => k1 c (List.mem_of_mem_take hc)
      have hlen : (l.take r.toNat).length = r.toNat := by simp; omega
      have oid : (s.ob id ⟨g + 1, .row e' de.size (l.take r.toNat)⟩).o id = ⟨g + 1, .row e' de.size (l.take r.toNat)⟩ := if_pos rfl
      have pre : ∀ (j : Nat) y, (l.take r.toNat).flatten[j]? = some y → ∃ c, (xs.take (r.toNat * de.size))[j]? = some c ∧ y.leaf = true ∧ Rt w (Sd B St s.o ι w) c y := fun j y hy => by
        obtain ⟨c, p1, p2, p3⟩ := k3 j y (flat_take_pre hy)
        have hj := (List.getElem?_eq_some_iff.1 hy).1
        rw [flat_size hsub, hlen] at hj
        exact ⟨c, by rw [List.getElem?_take, if_pos hj]; exact p1, p2, p3⟩
      -- the slice that is told
      obtain ⟨v', hrun, hown, hblk⟩ : ∃ v', (Instr.sliceAt ty (ι id) (lo.map a.eval) (hi.map a.eval) none).run P w = .ok v' w ∧ w.ownsRow B e' de.size v' (l.take r.toNat).length (xs.take (r.toNat * de.size)) ∧ ∀ b, Value.blk v' = some b → mb s.o ι id = some b := by
        rw [hlm]
        rcases k2.2 with ⟨h4, h5⟩ | ⟨g', cap, cur, h4, hb, hg2, hle, hcm, hcs, htk⟩
        · have hr0 : r = 0 := by omega
          rw [h4]
          refine ⟨.slice none 0 0, ?_, ?_, fun b e => (by cases e)⟩
          · have := slice_run hu (hT _ _ hde) (w := w) none 0 0 none (hi.map a.eval) 0 r (.inl ⟨rfl, rfl⟩) (hr.imp (fun q => ⟨q.2.1, by rw [q.2.2, h5]⟩) (fun q => q)) (Int.le_refl _) (by omega) (by omega) (Nat.le_refl _)
            rw [this, hr0]
            rfl
          · rw [hlen, hr0]
            have : xs.take (Int.toNat 0 * de.size) = [] := by simp
            rw [this]
            exact World.ownsRow_nil _ _ _ _
        · rw [h4]
          refine ⟨.slice (some ⟨g', 0, none⟩) r.toNat cap, ?_, ?_, fun b e => ?_⟩
          · have := slice_run hu (hT _ _ hde) (w := w) (some ⟨g', 0, none⟩) l.length cap none (hi.map a.eval) 0 r (.inl ⟨rfl, rfl⟩) (hr.imp (fun q => q.2) (fun q => q)) (Int.le_refl _) h0 h1 hle
            rw [this]
            simp [sliced, Addr.add_mid]
          · refine ⟨by rw [hlen, List.length_take, hxl]; exact Nat.min_eq_left (Nat.mul_le_mul_right _ (by omega)), .inr ⟨g', cap, cur, by rw [hlen], hb, hg2, by rw [hlen]; omega, hcm, hcs, ?_⟩⟩
            rw [hlen, ← htk, List.take_take, Nat.min_eq_left (Nat.mul_le_mul_right _ (by omega))]
          · unfold mb
            rw [hkk, h4]
            exact e
      have v1 : v'.oneCell' = true := by rcases hown.2 with ⟨h4, _⟩ | ⟨_, _, _, h4, _⟩ <;> (rw [h4]; rfl)
      refine ⟨fun j => if j = id then v' else ι j, _, v', by rw [hv]; exact hrun, Rel.next (w' := w) h id ⟨g + 1, .row e' de.size (l.take r.toNat)⟩ v' dst _ _ (Below.refl _ _) (fun j hj => if_neg hj) (if_pos rfl) (by rw [← hg]; exact Nat.le_succ _) (fun e2 => by rw [← hg] at e2; exact absurd e2 (Nat.ne_of_lt (Nat.lt_succ_self _))) (fun _ _ _ => rfl) (fun b e2 => .inl ?_) (fun mT mA => ?_) (fun mT mA _ => ?_), hk⟩
      · unfold mb at e2
        rw [oid] at e2
        simp only [if_true] at e2
        exact hblk b e2
      · refine ⟨hsub, _, hown, fun j y hy => ?_⟩
        obtain ⟨c, p1, p2, p3⟩ := pre j y hy
        exact ⟨c, p1, p2, mT _ _ p3⟩
      · refine .row ?_ (fun _ => (if_pos rfl : (if id = id then v' else ι id) = v').symm) v1
        rw [oid]
        exact Nat.le_refl _
  · exact hk.elim
end
end Go.Proofs.YtfflfmpkjcomgaaDoor
