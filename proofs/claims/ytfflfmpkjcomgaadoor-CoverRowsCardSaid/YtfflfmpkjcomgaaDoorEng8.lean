/- The engine, 8: structs that are built; one operation; operations one behind the other. -/
import Derived.Test.YtfflfmpkjcomgaaDoorEng10
namespace Go.Proofs.YtfflfmpkjcomgaaDoor
open Go.RowKit
section
variable {P : Program} {tt : Tys} {Hy : World → Prop} {X : World → (Nat → Prop) → (Nat → O) → (Nat → Value) → Prop} {cls : Nat → Nat} {B : Nat} {St : Nat → Prop} {Dp : List Deferred → Prop} {w0 w : World} {s : S} {ι : Nat → Value} {a : Act}

theorem fill_ok (h : Rel Hy X B St w0 Dp s ι a w) (place : Nat → Option (Nat × Nat)) : ∀ (parts : List (Nat × Operand)) (l l' : List A) (cs : Array Value), cs.size = l.length →
    (∀ (j : Nat) y, l[j]? = some y → ∃ c, cs[j]? = some c ∧ Ra w (Sd B St s.o ι w) s.o ι c y) → fillA place l (parts.map fun p => (p.1, s.ev p.2)) = some l' →
    ∃ cs', Instr.fill place cs (parts.map fun p => (p.1, a.eval p.2)) = some cs' ∧ cs'.size = l'.length ∧ ∀ (j : Nat) y, l'[j]? = some y → ∃ c, cs'[j]? = some c ∧ Ra w (Sd B St s.o ι w) s.o ι c y
  | [], l, l', cs, hz, hc, hf => by
    simp only [List.map_nil, fillA, Option.some.injEq] at hf
    subst hf
    exact ⟨cs, rfl, hz, hc⟩
  | (i, x) :: rest, l, l', cs, hz, hc, hf => by
    simp only [List.map_cons, fillA] at hf
    split at hf
    · rename_i off n hp
      split at hf
      · rename_i hcond
        obtain ⟨h1, h2, h3⟩ := hcond
        obtain ⟨c1, c2⟩ := cells_get (h.ev x) h3
        obtain ⟨g1, g2⟩ := Great.foldl_set off (a.eval x).cells.toList 0 cs
        have hal : off + (cellsA (s.ev x)).length ≤ l.length := by omega
        obtain ⟨cs', f1, f2, f3⟩ := fill_ok h place rest (setR l off (cellsA (s.ev x))) l' (((a.eval x).cells.toList.zipIdx 0).foldl (fun cs (x : Value × Nat) => cs.setIfInBounds (off + x.2) x.1) cs) (by rw [g1, setR_len _ _ _ hal, hz]) (fun j y hy => by
          rw [setR_at _ _ _ hal] at hy
          rw [g2 j]
          simp only [Nat.add_zero, Array.length_toList, c1]
          have hjl : j < cs.size := by
            rw [hz]
            split at hy
            · exact (List.getElem?_eq_some_iff.1 hy).1
            · split at hy
              · omega
              · exact (List.getElem?_eq_some_iff.1 hy).1
          by_cases hA : j < off
          · rw [if_pos hA] at hy
            rw [if_neg (by omega)]
            exact hc j y hy
          · rw [if_neg hA] at hy
            by_cases hB : j < off + (cellsA (s.ev x)).length
            · rw [if_pos hB] at hy
              rw [if_pos ⟨by omega, hB, hjl⟩]
              obtain ⟨c, p1, p2⟩ := c2 _ y hy
              exact ⟨c, by simpa using p1, p2⟩
            · rw [if_neg hB] at hy
              rw [if_neg (by omega)]
              exact hc j y hy) hf
        refine ⟨cs', ?_, f2, f3⟩
        simp only [List.map_cons]
        unfold Instr.fill
        simp only [hp]
        rw [if_neg (by simp [c1, h1]; omega), ← f1]
        congr 1
        rw [← Array.foldl_toList, Array.toList_zipIdx]
      · cases hf
    · cases hf

theorem places_ok (hT : Tys.ok P tt) : ∀ (F : List Field) (pl : List (Nat × Nat)), placesA tt (F.map fun f => (f.offset, f.type)) = some pl → F.mapM (fun f => (P.info? f.type).map fun i => (f.offset, i.size)) = some pl
  | [], pl, h => by
    simp only [List.map_nil, placesA, Option.some.injEq] at h
    subst h
    rfl
  | f :: F, pl, h => by
    simp only [List.map_cons, placesA] at h
    split at h
    · rename_i d r hd hr
      cases h
      obtain ⟨i, z, i1, i2, _⟩ := (hT _ _ hd).info
      rw [List.mapM_cons, places_ok hT F r hr]
      simp [i1, i2]
    · cases h

theorem build_ok (h : Rel Hy X B St w0 Dp s ι a w) (hT : Tys.ok P tt) {K : S → Prop} {dst : Option Nat} {ty : TypeId} {parts : Array (Nat × Operand)} (hk : Ek P Hy tt cls dst (.build ty parts) s K) :
    ∃ ι' s' v w', (Instr.build ty (parts.map fun (i, x) => (i, a.eval x))).run P w = .ok v w' ∧ Rel Hy X B St w0 Dp s' ι' (a.put dst v) w' ∧ K s' := by
  obtain ⟨d, _, hk⟩ := optK_get hk
  obtain ⟨td, hd, hk⟩ := optK_get hk
  obtain ⟨i, z, i1, i2, i3, i4, i5⟩ := (hT _ _ hd).info
  obtain ⟨u, hu, hok⟩ := (hT _ _ hd).desc
  obtain ⟨hok, _⟩ := hok
  have zl : ∀ (j : Nat) y, (td.zero.map constC)[j]? = some y → ∃ c, z.cells[j]? = some c ∧ Ra w (Sd B St s.o ι w) s.o ι c y := fun j y hy => by
    rw [List.getElem?_map] at hy
    obtain ⟨v, hv, rfl⟩ := Option.map_eq_some_iff.1 hy
    rw [← i5] at hv
    exact ⟨v, by simpa using hv, const_c _ _ v⟩
  have zz : z.cells.size = (td.zero.map constC).length := by rw [List.length_map, ← i5]; simp
  have fin : ∀ {cs' : Array Value} {l : List A}, l.all A.leaf = true → cs'.size = l.length → (∀ (j : Nat) y, l[j]? = some y → ∃ c, cs'[j]? = some c ∧ Ra w (Sd B St s.o ι w) s.o ι c y) → Ra w (Sd B St s.o ι w) s.o ι (.agg cs') (.ag l) := fun {cs' l} q0 q1 q2 => by
    refine .ag cs' l (fun j => cs'.getD j undef) q1 (fun j hj => ?_) (fun j x hx => ?_) (fun j x hx => ?_)
    · obtain ⟨c, hc, _⟩ := q2 j _ (List.getElem?_eq_getElem hj)
      simp [Array.getD_eq_getD_getElem?, hc]
    · exact List.all_eq_true.1 q0 x (List.mem_of_getElem? hx)
    · obtain ⟨c, hc, hr⟩ := q2 j x hx
      rw [show cs'.getD j undef = c by simp [Array.getD_eq_getD_getElem?, hc]]
      exact hr
  have pe : (parts.map fun (i, x) => (i, a.eval x)).toList = parts.toList.map fun p => (p.1, a.eval p.2) := by
    rw [Array.toList_map]
  split at hk
  · rename_i fs e
    rw [e] at hok
    obtain ⟨F, rfl, rfl⟩ := hok
    obtain ⟨pl, hpl, hk⟩ := optK_get hk
    obtain ⟨l, hl, q0, hk⟩ := optK_get hk
    obtain ⟨cs', f1, f2, f3⟩ := fill_ok h (fun i => pl[i]?) parts.toList _ l z.cells zz zl hl
    refine ⟨ι, _, .agg cs', w, run_build w ty _ cs' ?_, h.pure _ _ _ (fun _ => fin q0 f2 f3), hk⟩
    unfold Program.built
    simp only [i1, hu, i4, places_ok hT F.toList pl hpl, pe, List.getElem?_toArray]
    exact f1
  · rename_i n e he
    rw [he] at hok
    simp only [TK.ok] at hok
    subst hok
    obtain ⟨de, hde, hk⟩ := optK_get hk
    obtain ⟨l, hl, q0, hk⟩ := optK_get hk
    obtain ⟨ie, ze, e1, e2, _⟩ := (hT _ _ hde).info
    obtain ⟨cs', f1, f2, f3⟩ := fill_ok h (fun i => some (i * de.size, de.size)) parts.toList _ l z.cells zz zl hl
    refine ⟨ι, _, .agg cs', w, run_build w ty _ cs' ?_, h.pure _ _ _ (fun _ => fin q0 f2 f3), hk⟩
    unfold Program.built
    simp only [i1, hu, i4, e1, e2, pe]
    exact f1
  · exact hk.elim

def isE : Op → Bool
  | .box .. => true
  | .alloc .. => true
  | .store .. => true
  | .makeSlice .. => true
  | .buildSlice .. => true
  | .build .. => true
  | .slice .. => true
  | .makeMap .. => true
  | .mapUpdate .. => true
  | .lookup .. => true
  | .call c => match c.callee with
    | .builtin .append => true
    | .builtin .delete => true
    | .value _ => true
    | _ => false
  | _ => false
/-- one operation -/
def op1 (P : Program) (Hy : World → Prop) (tt : Tys) (cls : Nat → Nat) (o : Oper) (s : S) (K : S → Prop) : Prop := match isE o.op with
  | true => Ek P Hy tt cls o.dst o.op s K
  | false => Pk tt o.op s fun y => K (s.put o.dst y)
def opK (P : Program) (Hy : World → Prop) (tt : Tys) (cls : Nat → Nat) (ops : List Oper) (o : Oper) (s : S) (K : S → Prop) : Prop := match o.guard with
  | none => op1 P Hy tt cls o s K
  | some (g, want) => match (ops[g]?).bind (·.dst) with
    | some t => t < s.n ∧ match s.t t with
      | .t (.b q) => (q = want → op1 P Hy tt cls o s K) ∧ (q = !want → K (s.put o.dst (.tup [])))
      | .tup [] => K (s.put o.dst (.tup []))
      | _ => False
    | none => False
def runK (P : Program) (Hy : World → Prop) (tt : Tys) (cls : Nat → Nat) (ops : List Oper) : List Oper → S → (S → Prop) → Prop
  | [], s, K => K s
  | o :: os, s, K => opK P Hy tt cls ops o s fun s' => runK P Hy tt cls ops os s' K

theorem op1_ok (hT : Tys.ok P tt) (h : Rel Hy X B St w0 Dp s ι a w) {Q : Exit → Act → World → Prop} {o : Oper} {K : S → Prop} {K' : Act → World → Prop} (hs : ∀ s ι a w, Rel Hy X B St w0 Dp s ι a w → K s → K' a w)
    (hk : op1 P Hy tt cls o s K) : o.wp P a w K' Q := by
  unfold Oper.wp
  unfold op1 at hk
  have val : ∀ {v : Value} {w' : World}, (execOp a.eval o).run P w = .ok (.value v) w' → K' (a.put o.dst v) w' → o.upon P a K' Q ((execOp a.eval o).run P w) := fun e hK => by rw [e]; exact hK
  split at hk
  · rename_i he
    obtain ⟨dst, op, type, pos, after, guard⟩ := o
    cases op <;> first | (cases he; done) | skip
    case box ty x =>
      obtain ⟨d, hd, hl, hk⟩ := optK_get hk
      obtain ⟨c1, c2⟩ := cells_get (h.ev x) hl
      obtain ⟨ι', hR⟩ := new_ok h (cls d) ty (cellsA (s.ev x)) (a.eval x).cells c1 hl c2 dst
      exact val (v := .pointer (some ⟨w.heap.size, 0, none⟩)) rfl (hs _ ι' _ _ hR hk)
    case alloc ty =>
      obtain ⟨d, hd, hk⟩ := optK_get hk
      obtain ⟨td, htd, hl, hk⟩ := optK_get hk
      obtain ⟨i, z, i1, i2, i3, i4, i5⟩ := (hT _ _ htd).info
      have zz : z.cells.size = (td.zero.map constC).length := by rw [List.length_map, ← i5]; simp
      obtain ⟨ι', hR⟩ := new_ok h (cls d) ty (td.zero.map constC) z.cells zz hl (fun j y hy => by
        rw [List.getElem?_map] at hy
        obtain ⟨v, hv, rfl⟩ := Option.map_eq_some_iff.1 hy
        rw [← i5] at hv
        exact ⟨v, by simpa using hv, const_c _ _ v⟩) dst
      refine val (v := .pointer (some ⟨w.heap.size, 0, none⟩)) ?_ (hs _ ι' _ _ hR hk)
      simp [execOp, Instr.alloc, zeroValue, run_info i1, i4, newVar, newRow]
    case store ty x v =>
      obtain ⟨td, htd, hk⟩ := optK_get hk
      split at hk
      · rename_i id g off e
        obtain ⟨hg, hk⟩ := hk
        split at hk
        · rename_i ty' l hkk
          obtain ⟨⟨h1, h2, h3⟩, hk⟩ := hk
          obtain ⟨w', r1, r2⟩ := store_cells h hT htd e hg hkk h1 h2 h3 dst
          have := run_unit (P := P) (w := w) _ r1
          simp only [execOp] at this ⊢
          rw [this]
          exact hs _ ι _ _ r2 hk
        · exact hk.elim
      · rename_i id g z i off e
        obtain ⟨hg, hk⟩ := hk
        split at hk
        · rename_i ty' z' l hkk
          obtain ⟨rfl, hk⟩ := hk
          obtain ⟨t, ids, _, hf, rfl, h1, h2, hk⟩ := frz_ok h (h.ev v) (frz_mask hk)
          obtain ⟨el, hel, h3, hk⟩ := optK_get hk
          obtain ⟨w', r1, r2⟩ := store_row h hT htd e hg hkk hf h1 h2 hel h3 dst
          have := run_unit (P := P) (w := w) _ r1
          simp only [execOp] at this ⊢
          rw [this]
          exact hs _ ι _ _ r2 hk
        · rename_i ty' z' l hkk
          obtain ⟨rfl, ⟨h1, h2⟩, hk⟩ := hk
          obtain ⟨el, hel, h3, hk⟩ := optK_get hk
          obtain ⟨w', r1, r2⟩ := store_rowA h hT htd e hg hkk h1 h2 hel h3 dst
          have := run_unit (P := P) (w := w) _ r1
          simp only [execOp] at this ⊢
          rw [this]
          exact hs _ ι _ _ r2 hk
        · exact hk.elim
      · exact hk.elim
    case makeSlice ty n c =>
      obtain ⟨ι', s', v, w', r1, r2, hk⟩ := makeSlice_ok h hT hk
      exact val (run_val _ r1) (hs _ ι' _ _ r2 hk)
    case buildSlice ty n parts =>
      obtain ⟨ι', s', v, w', r1, r2, hk⟩ := buildSlice_ok h hT hk
      exact val (run_val _ r1) (hs _ ι' _ _ r2 hk)
    case build ty parts =>
      obtain ⟨ι', s', v, w', r1, r2, hk⟩ := build_ok h hT hk
      exact val (run_val _ r1) (hs _ ι' _ _ r2 hk)
    case slice ty x lo hi mx =>
      obtain ⟨ι', s', v, r1, r2, hk⟩ := slice_ok h hT hk
      exact val (run_val _ r1) (hs _ ι' _ _ r2 hk)
    case makeMap mt r =>
      cases r with
      | some r => exact hk.elim
      | none =>
        obtain ⟨d, hd, hk⟩ := optK_get hk
        obtain ⟨td, htd, hk⟩ := optK_get hk
        split at hk
        · obtain ⟨_, hk⟩ := hk
          obtain ⟨ι', hR⟩ := newMap_ok h (cls d) _ dst
          exact val (v := .map (some w.heap.size)) rfl (hs _ ι' _ _ hR hk)
        · exact hk.elim
    case mapUpdate mt m x v =>
      obtain ⟨td, htd, hk⟩ := optK_get hk
      split at hk
      · rename_i kt et id g _ e
        obtain ⟨M, hg, hk⟩ := hk
        split at hk
        · rename_i ks l hkk
          obtain ⟨hks, hk⟩ := hk
          obtain ⟨ky, hx, hky, hk⟩ := optK_get hk
          obtain ⟨w', r1, r2⟩ := update_ok h M e hg hkk hks hx hky dst
          have := run_unit (P := P) (w := w) _ r1
          simp only [execOp] at this ⊢
          rw [this]
          exact hs _ ι _ _ r2 hk
        · exact hk.elim
      · exact hk.elim
    case lookup mt m x c =>
      obtain ⟨td, htd, hk⟩ := optK_get hk
      split at hk
      · rename_i kt et id g _ e
        obtain ⟨M, hg, hk⟩ := hk
        split at hk
        · rename_i ks l hkk
          obtain ⟨hks, hk⟩ := hk
          obtain ⟨ky, hx, hky, hk⟩ := optK_get hk
          obtain ⟨v, y, r1, r2, hk⟩ := lookup_ok h M e hg hkk hks hx hky c (K := fun y => K (s.put dst y)) hk
          exact val (run_val _ r1) (hs _ ι _ _ (h.pure _ _ _ (fun _ => r2)) hk)
        · exact hk.elim
      · exact hk.elim
    case call c =>
      obtain ⟨callee, args, tys⟩ := c
      cases callee with
      | builtin b =>
        cases b <;> first | (cases he; done) | skip
        case delete =>
          simp only [Ek, delK] at hk
          split at hk
          · rename_i m x mt t2 ea eb
            obtain ⟨td, htd, hk⟩ := optK_get hk
            split at hk
            · rename_i kt et id g _ e
              obtain ⟨M, hg, hk⟩ := hk
              split at hk
              · rename_i ks l hkk
                obtain ⟨hks, hk⟩ := hk
                obtain ⟨ky, hx, hky, hk⟩ := optK_get hk
                have e1 : args = #[m, x] := by rw [← Array.toArray_toList (xs := args), ea]
                have e2 : tys = #[mt, t2] := by rw [← Array.toArray_toList (xs := tys), eb]
                subst e1 e2
                obtain ⟨w', r1, r2⟩ := delete_ok h M e hg hkk hks hx hky dst type t2
                have em : #[m, x].map a.eval = #[a.eval m, a.eval x] := by simp
                rw [← em] at r1
                exact val (show (builtin .delete #[mt, t2] type (#[m, x].map fun | .const _ => true | _ => false) (#[m, x].map a.eval)).run P w = _ from run_val _ r1) (hs _ ι _ _ r2 hk)
              · exact hk.elim
            · exact hk.elim
          · exact hk.elim
        obtain ⟨ι', s', v, w', r1, r2, hk⟩ := append_ok h hT (args := args.toList) (tys := tys.toList) hk type (args.map fun | .const _ => true | _ => false)
        rw [show (args.toList.map a.eval).toArray = args.map a.eval by rw [← Array.toList_map, Array.toArray_toList]] at r1
        exact val r1 (hs _ ι' _ _ r2 hk)
      | invoke r m => cases he
      | value f =>
        cases f <;> first | exact hk.elim | skip
        · rename_i t
          simp only [Ek] at hk
          split at hk
          · rename_i f l m e
            have hx := h.ev (.tmp t)
            rw [e] at hx
            obtain ⟨cs, ds, hv, ha1, ha2⟩ := hx.fn_get
            have ha := (Alike.app (show Alike w (Sd B St s.o ι w) s.o ι cs l from ha1) (h.alike args)).app (show Alike w (Sd B St s.o ι w) s.o ι ds m from ha2)
            obtain ⟨⟨fn, f1, f2, f3⟩, hc⟩ := call_okL (Q := Q) h (dst := dst) hs ha.1 (fun j x hx => by
              obtain ⟨c, hc, hr⟩ := ha.2 j x hx
              rw [show (cs ++ args.map a.eval ++ ds).getD j undef = c by rw [Array.getD_eq_getD_getElem?, hc]; rfl]
              exact hr) (frzL_mask hk)
            have run : (execOp a.eval ⟨dst, .call ⟨.value (.tmp t), args, tys⟩, type, pos, after, guard⟩).run P w = .ok (.enter f (cs ++ args.map a.eval ++ ds)) w := by
              simp [execOp, resolve, Deferred.ofValue, hv, invoke, callFunc, f1, f2, f3]
            rw [run]
            exact hc
          · exact hk.elim
        rename_i f
        obtain ⟨⟨fn, f1, f2, f3⟩, hc⟩ := call_ok (Q := Q) h (dst := dst) (args := args.toList) hs (frzL_mask hk)
        rw [show (args.toList.map a.eval).toArray = args.map a.eval by rw [← Array.toList_map, Array.toArray_toList]] at hc
        have run : (execOp a.eval ⟨dst, .call ⟨.value (.func f), args, tys⟩, type, pos, after, guard⟩).run P w = .ok (.enter f (args.map a.eval)) w := by
          simp [execOp, resolve, Deferred.ofValue, Act.eval, invoke, callFunc, f1, f2, f3]
        rw [run]
        exact hc
  · obtain ⟨v, y, r1, r2, hk⟩ := pure_ok hT h o _ hk
    exact val r1 (hs _ ι _ _ (h.pure _ _ _ (fun _ => r2)) hk)
end
end Go.Proofs.YtfflfmpkjcomgaaDoor
