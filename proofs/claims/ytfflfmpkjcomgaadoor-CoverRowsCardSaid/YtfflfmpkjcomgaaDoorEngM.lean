/- The engine, M: contracts of functions that turn objects; a call that turns them in one way alone. -/
import Derived.Test.YtfflfmpkjcomgaaDoorEng12
namespace Go.Proofs.YtfflfmpkjcomgaaDoor
open Go.RowKit

section
variable {P : Program} {tt : Tys} {Hy : World → Prop} {X : World → (Nat → Prop) → (Nat → O) → (Nat → Value) → Prop} {cls : Nat → Nat} {B : Nat} {St : Nat → Prop} {Dp : List Deferred → Prop} {w0 w : World} {s : S} {ι : Nat → Value} {a : Act}

/-- memory holds these objects -/
structure Mem (Hy : World → Prop) (X : World → (Nat → Prop) → (Nat → O) → (Nat → Value) → Prop) (B : Nat) (St : Nat → Prop) (w0 : World) (o : Nat → O) (ι : Nat → Value) (w : World) : Prop where
  below : Below B w0 w
  hB : B ≤ w.heap.size
  ob : ∀ id, Ob B w (Sd B St o ι w) o ι (ι id) (o id).k
  inj : ∀ i j b, mb o ι i = some b → mb o ι j = some b → i = j
  stB : ∀ g, St g → g < B
  hy : ∀ w', Below B w0 w' → Hy w'
  x : X w (Sd B St o ι w) o ι
  xc : ∃ N, N ≤ w.heap.size ∧ XC X N
theorem Rel.mem (h : Rel Hy X B St w0 Dp s ι a w) : Mem Hy X B St w0 s.o ι w := ⟨h.below, h.hB, h.ob, h.inj, h.stB, h.hy, h.x, by obtain ⟨N, L, n1, n2, _⟩ := h.xd; exact ⟨N, n1, n2⟩⟩
section
variable {o o' o2 : Nat → O}
/-- these objects may be taken for those -/
def Stl (o o' : Nat → O) : Prop := ∀ (Hy : World → Prop) (X : World → (Nat → Prop) → (Nat → O) → (Nat → Value) → Prop) (B : Nat) (St : Nat → Prop) (w0 : World) (ι : Nat → Value) (w : World), Mem Hy X B St w0 o ι w → Mem Hy X B St w0 o' ι w ∧ ∀ (v : Value) (x : A), Ra w (Sd B St o ι w) o ι v x → Ra w (Sd B St o' ι w) o' ι v x
theorem Stl.refl : Stl o o := fun _ _ _ _ _ _ _ h => ⟨h, fun _ _ h => h⟩
theorem Stl.trans (h : Stl o o') (k : Stl o' o2) : Stl o o2 := fun _ _ _ _ _ _ _ hm => by
  obtain ⟨h1, h2⟩ := h _ _ _ _ _ _ _ hm
  obtain ⟨k1, k2⟩ := k _ _ _ _ _ _ _ h1
  exact ⟨k1, fun v x hx => k2 v x (h2 v x hx)⟩
end
theorem Rel.stl (h : Rel Hy X B St w0 Dp s ι a w) {o' : Nat → O} (hs : Stl s.o o') : Rel Hy X B St w0 Dp ⟨s.n, s.t, o'⟩ ι a w := by
  obtain ⟨N, L, n1, n2, _⟩ := h.xd
  have hM : Mem Hy (fun w D o ι => X w D o ι ∧ ∀ (t : Nat) v, a.tmps[t]? = some v → Ra w D o ι v (s.t t)) B St w0 s.o ι w :=
    ⟨h.below, h.hB, h.ob, h.inj, h.stB, h.hy, ⟨h.x, h.tm⟩, N, n1, fun w D o ι w' D' o' ι' mT mA hz hk hx => ⟨n2 _ _ _ _ _ _ _ _ mT mA hz hk hx.1, fun t v e => mA _ _ (hx.2 t v e)⟩⟩
  obtain ⟨hM', _⟩ := hs _ _ _ _ _ _ _ hM
  exact ⟨hM'.below, hM'.hB, hM'.ob, hM'.inj, hM'.x.2, h.dv, h.sz, hM'.stB, hM'.hy, hM'.x.1, h.xd⟩
/-- a state may be taken for another one -/
def StlS (s s' : S) : Prop := ∀ (Hy : World → Prop) (X : World → (Nat → Prop) → (Nat → O) → (Nat → Value) → Prop) (B : Nat) (St : Nat → Prop) (w0 : World) (Dp : List Deferred → Prop) (ι : Nat → Value) (a : Act) (w : World), Rel Hy X B St w0 Dp s ι a w → Rel Hy X B St w0 Dp s' ι a w
theorem StlS.refl (s : S) : StlS s s := fun _ _ _ _ _ _ _ _ _ h => h
theorem StlS.stl {s : S} {o' : Nat → O} (hs : Stl s.o o') : StlS s ⟨s.n, s.t, o'⟩ := fun _ _ _ _ _ _ _ _ _ h => h.stl hs
/-- temporaries that hold rows that stay hold their data -/
theorem StlS.slots {s : S} {t' : Nat → A} (h3 : ∀ t, t' t = s.t t ∨ ∃ id g l, s.t t = .row id g ∧ g = (s.o id).gen ∧ (s.o id).k = .ro l ∧ t' t = .t (.sl l)) : StlS s ⟨s.n, t', s.o⟩ := fun _ _ _ _ _ _ _ _ _ h' => by
  refine ⟨h'.below, h'.hB, h'.ob, h'.inj, fun t v hv => ?_, h'.dv, h'.sz, h'.stB, h'.hy, h'.x, h'.xd⟩
  have ht := h'.tm t v hv
  show Ra _ _ _ _ _ (t' t)
  rcases h3 t with e | ⟨id, g, l, e1, e2, e3, e4⟩
  · rw [e]
    exact ht
  · rw [e1] at ht
    have hv := ht.row_get e2
    have ho := h'.ob id
    rw [e3] at ho
    rw [e4, hv]
    exact .t ho
theorem StlS.trans {s s1 s2 : S} (h : StlS s s1) (k : StlS s1 s2) : StlS s s2 := fun _ _ _ _ _ _ _ _ _ hr => k _ _ _ _ _ _ _ _ _ (h _ _ _ _ _ _ _ _ _ hr)
def RresM (w : World) (D : Nat → Prop) (o : Nat → O) (ι : Nat → Value) (v : Value) : List A → Prop
  | [x] => Ra w D o ι v x
  | l => ∃ (cs : Array Value) (c : Nat → Value), v = .tuple cs ∧ cs.size = l.length ∧ (∀ j, j < l.length → cs[j]? = some (c j)) ∧ ∀ (j : Nat) x, l[j]? = some x → Ra w D o ι (c j) x
def resM : List A → A
  | [x] => x
  | l => .tup l
/-- a function, called with these values where these objects are, tells values, and leaves objects, of which this is so -/
structure Cm (P : Program) (Hy : World → Prop) (f : FuncId) (args : List A) (o : Nat → O) (R : List A → (Nat → O) → Prop) : Prop where
  fn : ∃ fn, P.funcs[f]? = some fn ∧ fn.name ≠ "runtime.NumGoroutine" ∧ fn.body ≠ none
  go : ∀ X B St w0 ι w (cargs : Array Value), Mem Hy X B St w0 o ι w → cargs.size = args.length → (∀ (j : Nat) v x, cargs[j]? = some v → args[j]? = some x → Ra w (Sd B St o ι w) o ι v x) →
    Calls P f cargs w fun e w' => ∃ v ι' o' rs, e = .returned v ∧ R rs o' ∧ Mem Hy X B St w0 o' ι' w' ∧ RresM w' (Sd B St o' ι' w') o' ι' v rs
theorem Cm.mono {f : FuncId} {args : List A} {o : Nat → O} {R R' : List A → (Nat → O) → Prop} (h : Cm P Hy f args o R) (hr : ∀ rs o', R rs o' → R' rs o') : Cm P Hy f args o R' :=
  ⟨h.fn, fun X B St w0 ι w cargs hM hs ha => (h.go X B St w0 ι w cargs hM hs ha).mono (fun _ _ ⟨v, ι', o', rs, h1, h2, h3⟩ => ⟨v, ι', o', rs, h1, hr _ _ h2, h3⟩)⟩
/-- a call that may turn objects -/
def gOk (ops : List Oper) (o : Oper) (s : S) : Prop := match o.guard with
  | none => True
  | some (g, want) => match (ops[g]?).bind (·.dst) with
    | some t => t < s.n ∧ s.t t = .t (.b want)
    | none => False
def opM (P : Program) (Hy : World → Prop) (ops : List Oper) (o : Oper) (s : S) (K : S → Prop) : Prop := gOk ops o s ∧ match o.op with
  | .call c => match c.callee with
    | .value (.func f) => ∃ R, Cm P Hy f (c.args.toList.map s.ev) s.o R ∧ ∀ rs o', R rs o' → K ((⟨s.n, s.t, o'⟩ : S).put o.dst (resM rs))
    | .value (.tmp t) => match s.ev (.tmp t) with
      | .fn f l m => ∃ R, Cm P Hy f (l ++ c.args.toList.map s.ev ++ m) s.o R ∧ ∀ rs o', R rs o' → K ((⟨s.n, s.t, o'⟩ : S).put o.dst (resM rs))
      | _ => False
    | _ => False
  | _ => False
theorem resM_ok {D : Nat → Prop} {o : Nat → O} {v : Value} {r : List A} (h : RresM w D o ι v r) : Ra w D o ι v (resM r) := by
  unfold RresM at h
  unfold resM
  split at h
  · exact h
  · obtain ⟨cs, c, rfl, h1, h2, h3⟩ := h
    exact .tup cs _ c h1 h2 h3
theorem cm_call (h : Rel Hy X B St w0 Dp s ι a w) {Q : Exit → Act → World → Prop} {dst : Option Nat} {f : FuncId} {args : List A} {cargs : Array Value} {R : List A → (Nat → O) → Prop} {K : S → Prop} {K' : Act → World → Prop} (hs : Sim Hy X B St w0 Dp K K')
    (hc : Cm P Hy f args s.o R) (hz : cargs.size = args.length) (harg : ∀ (j : Nat) v x, cargs[j]? = some v → args[j]? = some x → Ra w (Sd B St s.o ι w) s.o ι v x) (hk : ∀ rs o', R rs o' → K ((⟨s.n, s.t, o'⟩ : S).put dst (resM rs))) :
    Calls P f cargs w fun | .returned v, w'' => K' (a.put dst v) w'' | .panicked chain, w'' => Q (.panic chain) a w'' | .outgrown, _ => LetsOut Q := by
  obtain ⟨N, L, n1, n2, n3, n4, n5⟩ := h.xd
  have hM : Mem Hy (fun w D o ι => X w D o ι ∧ (∀ (t : Nat) v, a.tmps[t]? = some v → Ra w D o ι v (s.t t)) ∧ N ≤ w.heap.size ∧ ∀ D ∈ L, w.heap[D]? = some (.deferred (some []))) B St w0 s.o ι w :=
    ⟨h.below, h.hB, h.ob, h.inj, h.stB, h.hy, ⟨h.x, h.tm, n1, fun D hD => (n5 D hD).2.2⟩, w.heap.size, Nat.le_refl _, fun w1 D o ι w' D' o' ι' mT mA hz hk hx => ⟨n2 _ _ _ _ _ _ _ _ mT mA hz (fun b ob hb => hk b ob (Nat.lt_of_lt_of_le hb n1)) hx.1, fun t v e => mA _ _ (hx.2.1 t v e), Nat.le_trans hx.2.2.1 hz,
      fun D hD => hk D _ (Array.getElem?_eq_some_iff.1 (n5 D hD).2.2).1 (oth_def _) (hx.2.2.2 D hD)⟩⟩
  refine (hc.go _ B St w0 ι w cargs hM hz harg).mono ?_
  rintro e w' ⟨v, ι', o', rs, rfl, hR, hM', hv⟩
  have h' : Rel Hy X B St w0 Dp ⟨s.n, s.t, o'⟩ ι' a w' := ⟨hM'.below, hM'.hB, hM'.ob, hM'.inj, hM'.x.2.1, h.dv, h.sz, hM'.stB, hM'.hy, hM'.x.1, N, L, hM'.x.2.2.1, n2, n3, n4, fun D hD => ⟨(n5 D hD).1, (n5 D hD).2.1, hM'.x.2.2.2 D hD⟩⟩
  exact hs _ ι' _ _ (h'.pure dst (resM rs) v (fun _ => resM_ok hv)) (hk rs o' hR)
theorem args_ev (h : Rel Hy X B St w0 Dp s ι a w) (args : Array Operand) : (args.map a.eval).size = (args.toList.map s.ev).length ∧ ∀ (j : Nat) v x, (args.map a.eval)[j]? = some v → (args.toList.map s.ev)[j]? = some x → Ra w (Sd B St s.o ι w) s.o ι v x := by
  refine ⟨by simp, fun j v x hv hx => ?_⟩
  rw [List.getElem?_map] at hx
  obtain ⟨y, hy, rfl⟩ := Option.map_eq_some_iff.1 hx
  have hy2 : args[j]? = some y := by simpa using hy
  rw [Array.getElem?_map, hy2] at hv
  cases hv
  exact h.ev y
theorem opM_ok {ro : Option Nat} {n : Nat} (h : Rel Hy X B St w0 Dp s ι a w) {Q : Exit → Act → World → Prop} {ops : Array Oper} {i : Nat} {o : Oper} (ho : ops[i]? = some o) {K : S → Prop} {K' : Act → World → Prop} (hs : Sim Hy X B St w0 Dp K K') (hk : opM P Hy ops.toList o s K) : wpOpIn (FW ro) n P ops Q i K' a w := by
  obtain ⟨hg, hk⟩ := hk
  unfold wpOpIn
  simp only [ho]
  have hw : Region.wanted o (yielded ops a.tmps) = true := by
    unfold gOk at hg
    split at hg
    · rename_i e
      simp [Region.wanted, e]
    · rename_i g want e
      split at hg
      · rename_i t ht
        obtain ⟨htn, hg⟩ := hg
        have ht2 : (ops[g]?).bind (·.dst) = some t := by simpa using ht
        have hl : t < a.tmps.size := by rw [h.sz]; exact htn
        have htm := h.tm t _ (Array.getElem?_eq_getElem hl)
        rw [hg] at htm
        have hq := htm.bool
        have hy : yielded ops a.tmps g = some want := by
          unfold yielded
          simp only [ht2, Option.bind_some, Array.getElem?_eq_getElem hl, hq]
        simp [Region.wanted, e, hy]
      · exact hg.elim
  rw [if_pos hw]
  refine wp_in (fun c e => by rw [e] at hk; exact hk.elim) ?_
  unfold Oper.wp
  obtain ⟨dst, op, type, pos, after, guard⟩ := o
  cases op <;> first | exact hk.elim | skip
  rename_i c
  obtain ⟨callee, args, tys⟩ := c
  obtain ⟨az, ae⟩ := args_ev h args
  cases callee with
  | builtin b => exact hk.elim
  | invoke r m => exact hk.elim
  | value f =>
    cases f with
    | const v => exact hk.elim
    | global g => exact hk.elim
    | func f =>
      obtain ⟨R, hc, hk⟩ := hk
      obtain ⟨fn, f1, f2, f3⟩ := hc.fn
      have run : (execOp a.eval ⟨dst, .call ⟨.value (.func f), args, tys⟩, type, pos, after, guard⟩).run P w = .ok (.enter f (args.map a.eval)) w := by
        simp [execOp, resolve, Deferred.ofValue, Act.eval, invoke, callFunc, f1, f2, f3]
      rw [run]
      exact cm_call h hs hc az ae hk
    | tmp t =>
      simp only at hk
      split at hk
      · rename_i f l m e
        obtain ⟨R, hc, hk⟩ := hk
        obtain ⟨fn, f1, f2, f3⟩ := hc.fn
        have hx := h.ev (.tmp t)
        rw [e] at hx
        obtain ⟨cs, ds, hv, ha1, ha2⟩ := hx.fn_get
        have ha := (Alike.app (show Alike w (Sd B St s.o ι w) s.o ι cs l from ha1) (h.alike args)).app (show Alike w (Sd B St s.o ι w) s.o ι ds m from ha2)
        have run : (execOp a.eval ⟨dst, .call ⟨.value (.tmp t), args, tys⟩, type, pos, after, guard⟩).run P w = .ok (.enter f (cs ++ args.map a.eval ++ ds)) w := by
          simp [execOp, resolve, Deferred.ofValue, hv, invoke, callFunc, f1, f2, f3]
        rw [run]
        refine cm_call h hs hc ha.1 (fun j v x hv hx => ?_) hk
        obtain ⟨c, hc1, hr⟩ := ha.2 j x hx
        rw [hv] at hc1
        cases hc1
        exact hr
      · exact hk.elim
def lookO : List (Nat × O) → Nat → O → O
  | [], _, d => d
  | p :: l, j, d => if j = p.1 then p.2 else lookO l j d
/-- a function, called with these values where these objects are as they are (others may be whatever), tells this and leaves these objects -/
def Cd (P : Program) (Hy : World → Prop) (f : FuncId) (args : List A) (o : Nat → O) (R : List Nat) (up : List (Nat × O)) (y : A) : Prop := ∀ o2, (∀ id ∈ R, o2 id = o id) → Cm P Hy f args o2 fun rs o' => resM rs = y ∧ o' = fun j => lookO up j (o2 j)
theorem Cd.agr {f : FuncId} {args : List A} {o o2 : Nat → O} {R : List Nat} {up : List (Nat × O)} {y : A} (h : Cd P Hy f args o R up y) (he : ∀ id ∈ R, o2 id = o id) : Cd P Hy f args o2 R up y := fun o3 h3 => h o3 fun id hid => (h3 id hid).trans (he id hid)
def updR (s : S) (up : List (Nat × O)) (d : Option Nat) (y : A) : S := upd s up.reverse d y
def opD (P : Program) (Hy : World → Prop) (ops : List Oper) (o : Oper) (s : S) (R W : List Nat) (K : S → Prop) : Prop := gOk ops o s ∧ match o.op with
  | .call c => match c.callee with
    | .value (.func f) => ∃ up y, (up.all fun p => W.contains p.1) = true ∧ Cd P Hy f (c.args.toList.map s.ev) s.o (R ++ W) up y ∧ K (updR s up o.dst y)
    | .value (.tmp t) => match s.ev (.tmp t) with
      | .fn f l m => ∃ up y, (up.all fun p => W.contains p.1) = true ∧ Cd P Hy f (l ++ c.args.toList.map s.ev ++ m) s.o (R ++ W) up y ∧ K (updR s up o.dst y)
      | _ => False
    | _ => False
  | _ => False
theorem lookO_fold : ∀ (up : List (Nat × O)) (s : S), (⟨s.n, s.t, fun j => lookO up j (s.o j)⟩ : S) = up.reverse.foldl (fun s p => s.ob p.1 p.2) s
  | [], s => rfl
  | p :: up, s => by
    rw [List.reverse_cons, List.foldl_append, ← lookO_fold up s]
    show _ = (⟨s.n, s.t, fun j => lookO up j (s.o j)⟩ : S).ob p.1 p.2
    unfold S.ob
    congr 1
theorem opD_M {ops : List Oper} {o : Oper} {R W : List Nat} {K : S → Prop} (h : opD P Hy ops o s R W K) : opM P Hy ops o s K := by
  obtain ⟨hg, hk⟩ := h
  refine ⟨hg, ?_⟩
  have go : ∀ {f : FuncId} {L : List A} {up : List (Nat × O)} {y : A}, Cd P Hy f L s.o (R ++ W) up y → K (upd s up.reverse o.dst y) → ∃ R, Cm P Hy f L s.o R ∧ ∀ rs o', R rs o' → K ((⟨s.n, s.t, o'⟩ : S).put o.dst (resM rs)) := fun {f L up y} hc hk => by
    refine ⟨_, hc s.o fun _ _ => rfl, ?_⟩
    rintro rs o' ⟨rfl, rfl⟩
    rw [lookO_fold]
    exact hk
  split at hk
  · split at hk
    · obtain ⟨up, y, _, hc, hk⟩ := hk
      exact go hc hk
    · split at hk
      · obtain ⟨up, y, _, hc, hk⟩ := hk
        exact go hc hk
      · exact hk.elim
    · exact hk.elim
  · exact hk.elim
end
end Go.Proofs.YtfflfmpkjcomgaaDoor
