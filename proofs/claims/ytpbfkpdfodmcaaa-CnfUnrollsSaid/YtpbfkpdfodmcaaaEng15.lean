/- The engine, 15: code; a function tells what its code comes to. -/
import Derived.Test.YtpbfkpdfodmcaaaEng14
namespace Go.Proofs.Ytpbfkpdfodmcaaa
open Go.RowKit

section
variable {P : Program} {tt : Tys} {Hy : World → Prop} {X : World → (Nat → Prop) → (Nat → O) → (Nat → Value) → Prop} {cls : Nat → Nat} {B : Nat} {St : Nat → Prop} {w0 w : World} {s : S} {ι : Nat → Value} {a : Act}

/-- memory holds these objects -/
structure Mem (Hy : World → Prop) (X : World → (Nat → Prop) → (Nat → O) → (Nat → Value) → Prop) (B : Nat) (St : Nat → Prop) (w0 : World) (o : Nat → O) (ι : Nat → Value) (w : World) : Prop where
  below : Below B w0 w
  hB : B ≤ w.heap.size
  ob : ∀ id, Ob B w (Sd B St o ι w) o ι (ι id) (o id).k
  inj : ∀ i j b, mb o ι i = some b → mb o ι j = some b → i = j
  stB : ∀ g, St g → g < B
  hy : ∀ w', Below B w0 w' → Hy w'
  x : X w (Sd B St o ι w) o ι
  xc : ∀ w D o ι w' D' o' ι', (∀ (v : Value) (t : T), Rt w D v t → Rt w' D' v t) → (∀ (v : Value) (z : A), Ra w D o ι v z → Ra w' D' o' ι' v z) → X w D o ι → X w' D' o' ι'
theorem Rel.mem (h : Rel Hy X B St w0 s ι a w) : Mem Hy X B St w0 s.o ι w := ⟨h.below, h.hB, h.ob, h.inj, h.stB, h.hy, h.x, h.xc⟩
section
variable {o o' o2 : Nat → O}
/-- these objects may be taken for those -/
def Stl (o o' : Nat → O) : Prop := ∀ (Hy : World → Prop) (X : World → (Nat → Prop) → (Nat → O) → (Nat → Value) → Prop) (B : Nat) (St : Nat → Prop) (w0 : World) (ι : Nat → Value) (w : World), Mem Hy X B St w0 o ι w → Mem Hy X B St w0 o' ι w ∧ ∀ (v : Value) (x : A), Ra w (Sd B St o ι w) o ι v x → Ra w (Sd B St o' ι w) o' ι v x
theorem Stl.refl : Stl o o := fun _ _ _ _ _ _ _ h => ⟨h, fun _ _ h => h⟩
theorem Stl.trans (h : Stl o o') (k : Stl o' o2) : Stl o o2 := fun _ _ _ _ _ _ _ hm => by
  obtain ⟨h1, h2⟩ := h _ _ _ _ _ _ _ hm
  obtain ⟨k1, k2⟩ := k _ _ _ _ _ _ _ h1
  exact ⟨k1, fun v x hx => k2 v x (h2 v x hx)⟩
end
theorem Rel.stl (h : Rel Hy X B St w0 s ι a w) {o' : Nat → O} (hs : Stl s.o o') : Rel Hy X B St w0 ⟨s.n, s.t, o'⟩ ι a w := by
  have hM : Mem Hy (fun w D o ι => X w D o ι ∧ ∀ (t : Nat) v, a.tmps[t]? = some v → Ra w D o ι v (s.t t)) B St w0 s.o ι w :=
    ⟨h.below, h.hB, h.ob, h.inj, h.stB, h.hy, ⟨h.x, h.tm⟩, fun w D o ι w' D' o' ι' mT mA hx => ⟨h.xc _ _ _ _ _ _ _ _ mT mA hx.1, fun t v e => mA _ _ (hx.2 t v e)⟩⟩
  obtain ⟨hM', _⟩ := hs _ _ _ _ _ _ _ hM
  exact ⟨hM'.below, hM'.hB, hM'.ob, hM'.inj, hM'.x.2, h.df, h.sz, hM'.stB, hM'.hy, hM'.x.1, h.xc⟩
def RresM (w : World) (D : Nat → Prop) (o : Nat → O) (ι : Nat → Value) (v : Value) : List A → Prop
  | [x] => Ra w D o ι v x
  | l => ∃ (cs : Array Value) (c : Nat → Value), v = .tuple cs ∧ cs.size = l.length ∧ (∀ j, j < l.length → cs[j]? = some (c j)) ∧ ∀ (j : Nat) x, l[j]? = some x → Ra w D o ι (c j) x
def resM : List A → A
  | [x] => x
  | l => .tup l
/-- a function, called with these values where these objects are, tells values, and leaves objects, of which this is so -/
structure Cm (P : Program) (Hy : World → Prop) (f : FuncId) (args : List A) (o : Nat → O) (R : List A → (Nat → O) → Prop) : Prop where
  fn : ∃ fn, P.funcs[f]? = some fn ∧ fn.name ≠ "runtime.NumGoroutine" ∧ fn.body ≠ none
  go : ∀ X B St w0 ι w (cargs : Array Value), Mem Hy X B St w0 o ι w → cargs.size = args.length → (∀ (j : Nat) v x, cargs[j]? = some v → args[j]? = some x → Ra w (Sd B St o ι w) o ι v x) →
    Calls P f cargs w fun e w' => ∃ v ι' o' rs, e = .returned v ∧ R rs o' ∧ Mem Hy X B St w0 o' ι' w' ∧ RresM w' (Sd B St o' ι' w') o' ι' v rs
theorem Cm.mono {f : FuncId} {args : List A} {o : Nat → O} {R R' : List A → (Nat → O) → Prop} (h : Cm P Hy f args o R) (hr : ∀ rs o', R rs o' → R' rs o') : Cm P Hy f args o R' :=
  ⟨h.fn, fun X B St w0 ι w cargs hM hs ha => (h.go X B St w0 ι w cargs hM hs ha).mono (fun _ _ ⟨v, ι', o', rs, h1, h2, h3⟩ => ⟨v, ι', o', rs, h1, hr _ _ h2, h3⟩)⟩
/-- a call that may turn objects -/
def gOk (ops : List Oper) (o : Oper) (s : S) : Prop := match o.guard with
  | none => True
  | some (g, want) => match (ops[g]?).bind (·.dst) with
    | some t => t < s.n ∧ s.t t = .t (.b want)
    | none => False
def opM (P : Program) (Hy : World → Prop) (ops : List Oper) (o : Oper) (s : S) (K : S → Prop) : Prop := gOk ops o s ∧ match o.op with
  | .call c => match c.callee with
    | .value (.func f) => ∃ R, Cm P Hy f (c.args.toList.map s.ev) s.o R ∧ ∀ rs o', R rs o' → K ((⟨s.n, s.t, o'⟩ : S).put o.dst (resM rs))
    | .value (.tmp t) => match s.ev (.tmp t) with
      | .fn f l m => ∃ R, Cm P Hy f (l ++ c.args.toList.map s.ev ++ m) s.o R ∧ ∀ rs o', R rs o' → K ((⟨s.n, s.t, o'⟩ : S).put o.dst (resM rs))
      | _ => False
    | _ => False
  | _ => False
theorem resM_ok {D : Nat → Prop} {o : Nat → O} {v : Value} {r : List A} (h : RresM w D o ι v r) : Ra w D o ι v (resM r) := by
  unfold RresM at h
  unfold resM
  split at h
  · exact h
  · obtain ⟨cs, c, rfl, h1, h2, h3⟩ := h
    exact .tup cs _ c h1 h2 h3
theorem cm_call (h : Rel Hy X B St w0 s ι a w) {Q : Exit → Act → World → Prop} {dst : Option Nat} {f : FuncId} {args : List A} {cargs : Array Value} {R : List A → (Nat → O) → Prop} {K : S → Prop} {K' : Act → World → Prop} (hs : Sim Hy X B St w0 K K')
    (hc : Cm P Hy f args s.o R) (hz : cargs.size = args.length) (harg : ∀ (j : Nat) v x, cargs[j]? = some v → args[j]? = some x → Ra w (Sd B St s.o ι w) s.o ι v x) (hk : ∀ rs o', R rs o' → K ((⟨s.n, s.t, o'⟩ : S).put dst (resM rs))) :
    Calls P f cargs w fun | .returned v, w'' => K' (a.put dst v) w'' | .panicked chain, w'' => Q (.panic chain) a w'' | .outgrown, _ => LetsOut Q := by
  have hM : Mem Hy (fun w D o ι => X w D o ι ∧ ∀ (t : Nat) v, a.tmps[t]? = some v → Ra w D o ι v (s.t t)) B St w0 s.o ι w :=
    ⟨h.below, h.hB, h.ob, h.inj, h.stB, h.hy, ⟨h.x, h.tm⟩, fun w D o ι w' D' o' ι' mT mA hx => ⟨h.xc _ _ _ _ _ _ _ _ mT mA hx.1, fun t v e => mA _ _ (hx.2 t v e)⟩⟩
  refine (hc.go _ B St w0 ι w cargs hM hz harg).mono ?_
  rintro e w' ⟨v, ι', o', rs, rfl, hR, hM', hv⟩
  have h' : Rel Hy X B St w0 ⟨s.n, s.t, o'⟩ ι' a w' := ⟨hM'.below, hM'.hB, hM'.ob, hM'.inj, hM'.x.2, h.df, h.sz, hM'.stB, hM'.hy, hM'.x.1, h.xc⟩
  exact hs _ ι' _ _ (h'.pure dst (resM rs) v (fun _ => resM_ok hv)) (hk rs o' hR)
theorem args_ev (h : Rel Hy X B St w0 s ι a w) (args : Array Operand) : (args.map a.eval).size = (args.toList.map s.ev).length ∧ ∀ (j : Nat) v x, (args.map a.eval)[j]? = some v → (args.toList.map s.ev)[j]? = some x → Ra w (Sd B St s.o ι w) s.o ι v x := by
  refine ⟨by simp, fun j v x hv hx => ?_⟩
  rw [List.getElem?_map] at hx
  obtain ⟨y, hy, rfl⟩ := Option.map_eq_some_iff.1 hx
  have hy2 : args[j]? = some y := by simpa using hy
  rw [Array.getElem?_map, hy2] at hv
  cases hv
  exact h.ev y
theorem opM_ok (h : Rel Hy X B St w0 s ι a w) {Q : Exit → Act → World → Prop} {ops : Array Oper} {i : Nat} {o : Oper} (ho : ops[i]? = some o) {K : S → Prop} {K' : Act → World → Prop} (hs : Sim Hy X B St w0 K K') (hk : opM P Hy ops.toList o s K) : wpOp P ops Q i K' a w := by
  obtain ⟨hg, hk⟩ := hk
  unfold wpOp
  simp only [ho]
  have hw : Region.wanted o (yielded ops a.tmps) = true := by
    unfold gOk at hg
    split at hg
    · rename_i e
      simp [Region.wanted, e]
    · rename_i g want e
      split at hg
      · rename_i t ht
        obtain ⟨htn, hg⟩ := hg
        have ht2 : (ops[g]?).bind (·.dst) = some t := by simpa using ht
        have hl : t < a.tmps.size := by rw [h.sz]; exact htn
        have htm := h.tm t _ (Array.getElem?_eq_getElem hl)
        rw [hg] at htm
        have hq := htm.bool
        have hy : yielded ops a.tmps g = some want := by
          unfold yielded
          simp only [ht2, Option.bind_some, Array.getElem?_eq_getElem hl, hq]
        simp [Region.wanted, e, hy]
      · exact hg.elim
  rw [if_pos hw]
  left
  unfold Oper.wp
  obtain ⟨dst, op, type, pos, after, guard⟩ := o
  cases op <;> first | exact hk.elim | skip
  rename_i c
  obtain ⟨callee, args, tys⟩ := c
  obtain ⟨az, ae⟩ := args_ev h args
  cases callee with
  | builtin b => exact hk.elim
  | invoke r m => exact hk.elim
  | value f =>
    cases f with
    | const v => exact hk.elim
    | global g => exact hk.elim
    | func f =>
      obtain ⟨R, hc, hk⟩ := hk
      obtain ⟨fn, f1, f2, f3⟩ := hc.fn
      have run : (execOp a.eval ⟨dst, .call ⟨.value (.func f), args, tys⟩, type, pos, after, guard⟩).run P w = .ok (.enter f (args.map a.eval)) w := by
        simp [execOp, resolve, Deferred.ofValue, Act.eval, invoke, callFunc, f1, f2, f3]
      rw [run]
      exact cm_call h hs hc az ae hk
    | tmp t =>
      simp only at hk
      split at hk
      · rename_i f l m e
        obtain ⟨R, hc, hk⟩ := hk
        obtain ⟨fn, f1, f2, f3⟩ := hc.fn
        have hx := h.ev (.tmp t)
        rw [e] at hx
        obtain ⟨cs, ds, hv, ha1, ha2⟩ := hx.fn_get
        have ha := (Alike.app (show Alike w (Sd B St s.o ι w) s.o ι cs l from ha1) (h.alike args)).app (show Alike w (Sd B St s.o ι w) s.o ι ds m from ha2)
        have run : (execOp a.eval ⟨dst, .call ⟨.value (.tmp t), args, tys⟩, type, pos, after, guard⟩).run P w = .ok (.enter f (cs ++ args.map a.eval ++ ds)) w := by
          simp [execOp, resolve, Deferred.ofValue, hv, invoke, callFunc, f1, f2, f3]
        rw [run]
        refine cm_call h hs hc ha.1 (fun j v x hv hx => ?_) hk
        obtain ⟨c, hc1, hr⟩ := ha.2 j x hx
        rw [hv] at hc1
        cases hc1
        exact hr
      · exact hk.elim
/-- a call whose arguments are frozen, and which may turn objects -/
def opF (P : Program) (Hy : World → Prop) (ops : List Oper) (o : Oper) (s : S) (K : S → Prop) : Prop := gOk ops o s ∧ match o.op with
  | .call c => match c.callee with
    | .value (.func f) => frzL s.o (c.args.toList.map s.ev) fun ts up => ∃ R, Cm P Hy f (ts.map A.t) (s.frz up).o R ∧ ∀ rs o', R rs o' → K ((⟨s.n, s.t, o'⟩ : S).put o.dst (resM rs))
    | _ => False
  | _ => False
theorem gOk_wanted (h : Rel Hy X B St w0 s ι a w) {ops : Array Oper} {o : Oper} (hg : gOk ops.toList o s) : Region.wanted o (yielded ops a.tmps) = true := by
  unfold gOk at hg
  split at hg
  · rename_i e
    simp [Region.wanted, e]
  · rename_i g want e
    split at hg
    · rename_i t ht
      obtain ⟨htn, hg⟩ := hg
      have ht2 : (ops[g]?).bind (·.dst) = some t := by simpa using ht
      have hl : t < a.tmps.size := by rw [h.sz]; exact htn
      have htm := h.tm t _ (Array.getElem?_eq_getElem hl)
      rw [hg] at htm
      have hq := htm.bool
      have hy : yielded ops a.tmps g = some want := by
        unfold yielded
        simp only [ht2, Option.bind_some, Array.getElem?_eq_getElem hl, hq]
      simp [Region.wanted, e, hy]
    · exact hg.elim
theorem opF_ok (h : Rel Hy X B St w0 s ι a w) {Q : Exit → Act → World → Prop} {ops : Array Oper} {i : Nat} {o : Oper} (ho : ops[i]? = some o) {K : S → Prop} {K' : Act → World → Prop} (hs : Sim Hy X B St w0 K K') (hk : opF P Hy ops.toList o s K) : wpOp P ops Q i K' a w := by
  obtain ⟨hg, hk⟩ := hk
  unfold wpOp
  simp only [ho]
  rw [if_pos (gOk_wanted h hg)]
  left
  unfold Oper.wp
  obtain ⟨dst, op, type, pos, after, guard⟩ := o
  cases op <;> first | exact hk.elim | skip
  rename_i c
  obtain ⟨callee, args, tys⟩ := c
  cases callee with
  | builtin b => exact hk.elim
  | invoke r m => exact hk.elim
  | value f =>
    cases f with
    | const v => exact hk.elim
    | global g => exact hk.elim
    | tmp t => exact hk.elim
    | func f =>
      have ha := h.alike args
      obtain ⟨ts, up, g1, g2, g3, R, hc, hk⟩ := frzL_ok h (args.toList.map s.ev) (fun j => (args.map a.eval).getD j undef) (fun j x hx => by
        obtain ⟨c, hc, hr⟩ := ha.2 j x hx
        rw [show (args.map a.eval).getD j undef = c by rw [Array.getD_eq_getD_getElem?, hc]; rfl]
        exact hr) hk
      obtain ⟨fn, f1, f2, f3⟩ := hc.fn
      obtain ⟨k1, k2, k3⟩ := h.frz g1
      have run : (execOp a.eval ⟨dst, .call ⟨.value (.func f), args, tys⟩, type, pos, after, guard⟩).run P w = .ok (.enter f (args.map a.eval)) w := by
        simp [execOp, resolve, Deferred.ofValue, Act.eval, invoke, callFunc, f1, f2, f3]
      rw [run]
      refine cm_call k1 hs hc (by rw [List.length_map, g2]; exact ha.1) (fun j v x hv hx => ?_) (fun rs o' hR => ?_)
      · rw [List.getElem?_map] at hx
        obtain ⟨t, ht, rfl⟩ := Option.map_eq_some_iff.1 hx
        have := (g3 j t ht).rt h g1
        rw [show (args.map a.eval).getD j undef = v by rw [Array.getD_eq_getD_getElem?, hv]; rfl] at this
        exact .t this
      · rw [(frz_t s up).1, (frz_t s up).2]
        exact hk rs o' hR
def runM (P : Program) (Hy : World → Prop) (tt : Tys) (cls : Nat → Nat) (ops : List Oper) : List Oper → S → (S → Prop) → Prop
  | [], s, K => K s
  | o :: os, s, K => opK P Hy tt cls ops o s (fun s' => runM P Hy tt cls ops os s' K) ∨ opM P Hy ops o s (fun s' => runM P Hy tt cls ops os s' K) ∨ opF P Hy ops o s (fun s' => runM P Hy tt cls ops os s' K)
theorem runM_ok (hT : Tys.ok P tt) {Q : Exit → Act → World → Prop} (ops : Array Oper) : ∀ (n k : Nat) {s : S} {ι : Nat → Value} {a : Act} {w : World} {K : S → Prop}, k + n = ops.size → Rel Hy X B St w0 s ι a w → Sim Hy X B St w0 K (Q .normal) →
    runM P Hy tt cls ops.toList (ops.toList.drop k) s K → wpOps P ops Q ((List.range n).map (k + ·)) a w
  | 0, k, s, ι, a, w, K, hk, h, hs, hr => by
    rw [List.drop_eq_nil_of_le (by simp; omega)] at hr
    exact hs _ _ _ _ h hr
  | n + 1, k, s, ι, a, w, K, hk, h, hs, hr => by
    have hlt : k < ops.size := by omega
    rw [List.range_succ_eq_map, List.map_cons, List.map_map, wpOps_cons, Nat.add_zero]
    rw [List.drop_eq_getElem_cons (by simpa using hlt)] at hr
    have : ((k + ·) ∘ Nat.succ : Nat → Nat) = ((k + 1) + ·) := by funext j; simp; omega
    rw [this]
    rcases hr with hr | hr | hr
    · exact opK_ok hT h (Array.getElem?_eq_getElem hlt) (fun s' ι' a' w' h' hk' => runM_ok hT ops n (k + 1) (by omega) h' hs hk') hr
    · exact opM_ok h (Array.getElem?_eq_getElem hlt) (fun s' ι' a' w' h' hk' => runM_ok hT ops n (k + 1) (by omega) h' hs hk') hr
    · exact opF_ok h (Array.getElem?_eq_getElem hlt) (fun s' ι' a' w' h' hk' => runM_ok hT ops n (k + 1) (by omega) h' hs hk') hr

/-- code, by what it does to states -/
def cwp (P : Program) (Hy : World → Prop) (tt : Tys) (cls : Nat → Nat) : Code → (Exit → S → Prop) → S → Prop
  | .skip, Q, s => Q .normal s
  | .region _ ops false, Q, s => runM P Hy tt cls ops.toList ops.toList s (Q .normal)
  | .region _ ops true, Q, s => stat ops.toList = true ∧ runD P Hy tt cls ops.toList ops.toList 0 s [] (Q .normal)
  | .seq x y, Q, s => cwp P Hy tt cls x (fun e s' => match e with
    | .normal => ∃ o', Stl s'.o o' ∧ cwp P Hy tt cls y Q ⟨s'.n, s'.t, o'⟩
    | e => Q e s') s
  | .cond c x y, Q, s => match s.ev c with
    | .t (.b q) => (q = true → cwp P Hy tt cls x Q s) ∧ (q = false → cwp P Hy tt cls y Q s)
    | _ => False
  | .block id x, Q, s => cwp P Hy tt cls x (fun e s' => match e with
    | .exit id' => if id' = id then Q .normal s' else Q (.exit id') s'
    | e => Q e s') s
  | .loop x, Q, s => ∃ (I : Nat → S → Prop) (n : Nat), I n s ∧ ∀ m s, I m s → cwp P Hy tt cls x (fun e s' => match e with
    | .normal => ∃ m', m' < m ∧ I m' s'
    | e => Q e s') s
  | .exit id, Q, s => Q (.exit id) s
  | .ret, Q, s => Q .ret s
  | _, _, _ => False

def SimQ (Hy : World → Prop) (X : World → (Nat → Prop) → (Nat → O) → (Nat → Value) → Prop) (B : Nat) (St : Nat → Prop) (w0 : World) (Q : Exit → S → Prop) (Q' : Exit → Act → World → Prop) : Prop := ∀ e s ι a w, Rel Hy X B St w0 s ι a w → Q e s → Q' e a w

theorem least1 (p : Nat → Prop) (h : ∃ x, p x) : ∃ m, p m ∧ ∀ x, p x → m ≤ x := by
  obtain ⟨x, hx⟩ := h
  induction x using Nat.strongRecOn with
  | _ x ih =>
    by_cases hl : ∃ y, y < x ∧ p y
    · obtain ⟨y, hy, hp⟩ := hl
      exact ih y hy hp
    · exact ⟨x, hx, fun y hy => Nat.le_of_not_lt (fun hlt => hl ⟨y, hlt, hy⟩)⟩
theorem least2 (R : Act → World → Nat → Prop) : ∃ mu : Act → World → Nat, ∀ a w, (∃ x, R a w x) → R a w (mu a w) ∧ ∀ x, R a w x → mu a w ≤ x := by
  have key : ∀ p : Act × World, ∃ m, (∃ x, R p.1 p.2 x) → R p.1 p.2 m ∧ ∀ x, R p.1 p.2 x → m ≤ x := fun p => by
    by_cases h : ∃ x, R p.1 p.2 x
    · obtain ⟨m, hm⟩ := least1 _ h
      exact ⟨m, fun _ => hm⟩
    · exact ⟨0, fun h2 => absurd h2 h⟩
  exact ⟨fun a w => Classical.choose (key (a, w)), fun a w => Classical.choose_spec (key (a, w))⟩
theorem cwp_ok (hT : Tys.ok P tt) (hM : P.follows .mixedOrders = true) : ∀ (c : Code) {Q : Exit → S → Prop} {Q' : Exit → Act → World → Prop} {s : S} {ι : Nat → Value} {a : Act} {w : World}, Rel Hy X B St w0 s ι a w → SimQ Hy X B St w0 Q Q' → cwp P Hy tt cls c Q s → c.wp P Q' a w
  | .skip, Q, Q', s, ι, a, w, h, hs, hk => wp_skip (hs _ _ _ _ _ h hk)
  | .region id ops false, Q, Q', s, ι, a, w, h, hs, hk => wp_region (by
      have := runM_ok (Q := Q') hT ops ops.size 0 (by omega) h (fun s ι a w h hk => hs _ s ι a w h hk) (by simpa [cwp] using hk)
      simpa using this)
  | .region id ops true, Q, Q', s, ι, a, w, h, hs, hk => draw_ok hT hM id h (fun s ι a w h hk => hs _ s ι a w h hk) hk.1 hk.2
  | .seq x y, Q, Q', s, ι, a, w, h, hs, hk => wp_seq (cwp_ok hT hM x h (fun e s ι a w h hk => by
      cases e <;> first
        | exact hs _ _ _ _ _ h hk
        | skip
      obtain ⟨o', h1, hk⟩ := hk
      exact cwp_ok hT hM y (h.stl h1) hs hk) hk)
  | .cond c x y, Q, Q', s, ι, a, w, h, hs, hk => by
      simp only [cwp] at hk
      split at hk
      · rename_i q e
        have hc := h.ev c
        rw [e] at hc
        cases q
        · exact wp_cond_false hc.bool (cwp_ok hT hM y h hs (hk.2 rfl))
        · exact wp_cond_true hc.bool (cwp_ok hT hM x h hs (hk.1 rfl))
      · exact hk.elim
  | .block id x, Q, Q', s, ι, a, w, h, hs, hk => wp_block (cwp_ok hT hM x h (fun e s ι a w h hk => by
      cases e <;> first
        | exact hs _ _ _ _ _ h hk
        | skip
      rename_i id'
      simp only [Exit.inBlock]
      split
      · rename_i e
        simp only [e, if_true] at hk
        exact hs _ _ _ _ _ h hk
      · rename_i e
        simp only [e, if_false] at hk
        exact hs _ _ _ _ _ h hk) hk)
  | .loop x, Q, Q', s, ι, a, w, h, hs, hk => by
      obtain ⟨I, n, h0, hr⟩ := hk
      obtain ⟨mu, hmu⟩ := least2 (fun a w m => ∃ s ι, Rel Hy X B St w0 s ι a w ∧ I m s)
      refine wp_loop (fun a w => ∃ m s ι, Rel Hy X B St w0 s ι a w ∧ I m s) mu ⟨n, s, ι, h, h0⟩ (fun a w hJ => ?_)
      obtain ⟨⟨s, ι, h, hI⟩, _⟩ := hmu a w hJ
      refine cwp_ok hT hM x h (fun e s' ι' a' w' h' hk' => ?_) (hr _ s hI)
      cases e with
      | normal =>
        obtain ⟨m', hlt, hI'⟩ := hk'
        have hJ' : ∃ m s ι, Rel Hy X B St w0 s ι a' w' ∧ I m s := ⟨m', s', ι', h', hI'⟩
        exact ⟨hJ', Nat.lt_of_le_of_lt ((hmu a' w' hJ').2 m' ⟨s', ι', h', hI'⟩) hlt⟩
      | exit id => exact hs _ _ _ _ _ h' hk'
      | goto l => exact hs _ _ _ _ _ h' hk'
      | ret => exact hs _ _ _ _ _ h' hk'
      | panic c => exact hs _ _ _ _ _ h' hk'
      | outgrown => exact hs _ _ _ _ _ h' hk'
  | .exit id, Q, Q', s, ι, a, w, h, hs, hk => wp_exit (hs _ _ _ _ _ h hk)
  | .ret, Q, Q', s, ι, a, w, h, hs, hk => wp_ret (hs _ _ _ _ _ h hk)
  | .scope x, Q, Q', s, ι, a, w, h, hs, hk => hk.elim
  | .rangeFunc f ps x y, Q, Q', s, ι, a, w, h, hs, hk => hk.elim
  | .goto l, Q, Q', s, ι, a, w, h, hs, hk => hk.elim
  | .label l, Q, Q', s, ι, a, w, h, hs, hk => hk.elim
  | .refuse y, Q, Q', s, ι, a, w, h, hs, hk => hk.elim
end

section
variable {P : Program} {tt : Tys} {Hy : World → Prop} {X : World → (Nat → Prop) → (Nat → O) → (Nat → Value) → Prop} {cls : Nat → Nat} {B : Nat} {St : Nat → Prop} {w0 w : World} {s : S} {ι : Nat → Value} {a : Act}
def s0 (n : Nat) (args : List A) (o : Nat → O) : S := ⟨n, fun j => match args[j]? with
  | some x => x
  | none => .junk, o⟩
def o0 : Nat → O := fun _ => ⟨0, .none⟩
/-- the values of the results -/
def resK (tt : Tys) (s : S) : List ResultVar → (List A → Prop) → Prop
  | [], K => K []
  | .tmp t :: l, K => resK tt s l fun as => K (s.ev (.tmp t) :: as)
  | .cell a t :: l, K => Pk tt (.load t (.tmp a)) s fun x => resK tt s l fun as => K (x :: as)
/-- what is told at the end -/
def retQ (tt : Tys) (rs : List ResultVar) (R : List A → (Nat → O) → Prop) : Exit → S → Prop
  | .normal, s => resK tt s rs fun as => R as s.o
  | .ret, s => resK tt s rs fun as => R as s.o
  | _, _ => False
def resV : List Value → Value
  | [v] => v
  | vs => .tuple vs.toArray
def rdR (a : Act) : ResultVar → Sem Value
  | .tmp t => pure (a.tmps.getD t undef)
  | .cell b t => do loadVar t (← asAddr (a.tmps.getD b undef))
/-- the results are read -/
theorem resK_ok (hT : Tys.ok P tt) (h : Rel Hy X B St w0 s ι a w) : ∀ (rs : List ResultVar) {K : List A → Prop}, resK tt s rs K →
    ∃ vs as, (rs.mapM (rdR a)).run P w = .ok vs w ∧ vs.length = as.length ∧ (∀ (j : Nat) x, as[j]? = some x → Ra w (Sd B St s.o ι w) s.o ι (vs.getD j undef) x) ∧ K as
  | [], K, hk => ⟨[], [], rfl, rfl, fun j x hx => (by simp at hx), hk⟩
  | .tmp t :: l, K, hk => by
    obtain ⟨vs, as, h1, h2, h4, hk⟩ := resK_ok hT h l hk
    refine ⟨a.tmps.getD t undef :: vs, _ :: as, ?_, by simp [h2], fun j x hx => ?_, hk⟩
    · rw [List.mapM_cons, Sem.run_bind]
      unfold rdR at h1 ⊢
      simp only [Sem.run_pure, Result.andThen, Sem.run_bind, h1]
    · cases j with
      | zero => cases hx; exact h.ev (.tmp t)
      | succ j => exact h4 j x hx
  | .cell b t :: l, K, hk => by
    obtain ⟨v, y, r1, r2, hk⟩ := load_ok hT h t (.tmp b) _ hk
    obtain ⟨vs, as, h1, h2, h4, hk⟩ := resK_ok hT h l hk
    have r1 : (Instr.loadAt t (a.tmps.getD b undef)).run P w = .ok v w := r1
    refine ⟨v :: vs, y :: as, ?_, by simp [h2], fun j x hx => ?_, hk⟩
    · rw [List.mapM_cons, Sem.run_bind]
      have : (rdR a (.cell b t)).run P w = .ok v w := by
        show (do loadVar t (← asAddr (a.tmps.getD b undef)) : Sem Value).run P w = _
        revert r1
        generalize a.tmps.getD b undef = q
        intro r1
        unfold Instr.loadAt at r1
        rw [Sem.run_bind] at r1 ⊢
        cases q <;> first | (simp [Instr.sureAddr, Result.andThen] at r1; done) | skip
        rename_i p
        cases p with
        | none => simp [Instr.sureAddr, Result.andThen] at r1
        | some ad => simpa [Instr.sureAddr, asAddr, Result.andThen] using r1
      rw [this]
      simp only [Result.andThen, Sem.run_bind, h1, Sem.run_pure]
    · cases j with
      | zero => cases hx; exact r2
      | succ j => exact h4 j x hx
theorem results_run (fn : Func) (vs : List Value) (h : (fn.results.toList.mapM (rdR a)).run P w = .ok vs w) : (results fn a.tmps).run P w = .ok (resV vs) w := by
  have e : results fn a.tmps = (do
      let vs ← fn.results.mapM (rdR a)
      pure (if h : vs.size = 1 then vs[0] else .tuple vs)) := by
    unfold results
    refine congrArg (fun f : ResultVar → Sem Value => (do
      let vs ← fn.results.mapM f
      pure (if h : vs.size = 1 then vs[0] else .tuple vs) : Sem Value)) ?_
    funext r
    cases r <;> rfl
  rw [e, Array.mapM_eq_mapM_toList, Sem.run_bind, Sem.run_map, h]
  simp only [Result.andThen]
  match vs with
  | [] => rfl
  | [r] => rfl
  | r :: r' :: vs => simp [resV]
theorem rres_of {D : Nat → Prop} : ∀ (ts : List T) (vs : List Value), ts.length = vs.length → (∀ (j : Nat) t, ts[j]? = some t → Rt w D (vs.getD j undef) t) → Rres w D (resV vs) ts
  | [], [], _, _ => ⟨#[], fun _ => undef, rfl, rfl, fun j hj => absurd hj (Nat.not_lt_zero j), fun j x hx => (by simp at hx)⟩
  | [x], [v], _, h => h 0 x rfl
  | x :: y :: ts, v :: u :: vs, hl, h => by
    refine ⟨(v :: u :: vs).toArray, fun j => (v :: u :: vs).getD j undef, rfl, by simpa using hl.symm, fun j hj => ?_, fun j x hx => h j x hx⟩
    have : j < (v :: u :: vs).length := by rw [← hl]; exact hj
    rw [List.getElem?_toArray, List.getElem?_eq_getElem this]
    simp only [List.getD_eq_getElem?_getD, List.getElem?_eq_getElem this, Option.getD_some]
theorem rresM_of {D : Nat → Prop} {o : Nat → O} : ∀ (ts : List A) (vs : List Value), ts.length = vs.length → (∀ (j : Nat) t, ts[j]? = some t → Ra w D o ι (vs.getD j undef) t) → RresM w D o ι (resV vs) ts
  | [], [], _, _ => ⟨#[], fun _ => undef, rfl, rfl, fun j hj => absurd hj (Nat.not_lt_zero j), fun j x hx => (by simp at hx)⟩
  | [x], [v], _, h => h 0 x rfl
  | x :: y :: ts, v :: u :: vs, hl, h => by
    refine ⟨(v :: u :: vs).toArray, fun j => (v :: u :: vs).getD j undef, rfl, by simpa using hl.symm, fun j hj => ?_, fun j x hx => h j x hx⟩
    have : j < (v :: u :: vs).length := by rw [← hl]; exact hj
    rw [List.getElem?_toArray, List.getElem?_eq_getElem this]
    simp only [List.getD_eq_getElem?_getD, List.getElem?_eq_getElem this, Option.getD_some]

/-- a function's contract of memory, from its code -/
theorem cm_of (hT : Tys.ok P tt) (hM : P.follows .mixedOrders = true) {f : FuncId} {fn : Func} {c : Code} {args : List A} {o : Nat → O} {R : List A → (Nat → O) → Prop} (hf : P.funcs[f]? = some fn) (hb : fn.body = some c) (hnm : fn.name ≠ "runtime.NumGoroutine")
    (hn : args.length ≤ fn.ntmps) (h : cwp P Hy tt cls c (retQ tt fn.results.toList R) (s0 fn.ntmps args o)) : Cm P Hy f args o R := by
  refine ⟨⟨fn, hf, hnm, by rw [hb]; simp⟩, fun X B St w0 ι w cargs hMm hsz harg => ?_⟩
  refine calls_of_wp hf hb ?_
  have h0 : Rel Hy X B St w0 (s0 fn.ntmps args o) ι { tmps := cargs ++ Array.replicate (fn.ntmps - cargs.size) undef, defers := [] } w := by
    refine ⟨hMm.below, hMm.hB, hMm.ob, hMm.inj, fun t v hv => ?_, rfl, ?_, hMm.stB, hMm.hy, hMm.x, hMm.xc⟩
    · show Ra w _ _ _ v (match args[t]? with | some x => x | none => .junk)
      cases ht : args[t]? with
      | none => exact .junk
      | some x =>
        have htl := (List.getElem?_eq_some_iff.1 ht).1
        rw [Array.getElem?_append_left (by omega)] at hv
        exact harg t v x hv ht
    · simp [s0]
      omega
  refine cwp_ok hT hM c h0 (fun e s ι' a w' hR hk => ?_) h
  have fin : (resK tt s fn.results.toList fun as => R as s.o) → a.defers = [] ∧ ∃ v, (results fn a.tmps).run P w' = .ok v w' ∧ ∃ v' ι' o' rs, Ending.returned v = .returned v' ∧ R rs o' ∧ Mem Hy X B St w0 o' ι' w' ∧ RresM w' (Sd B St o' ι' w') o' ι' v' rs := fun hk => by
    obtain ⟨vs, as, h1, h2, h3, hk⟩ := resK_ok hT hR _ hk
    exact ⟨hR.df, _, results_run fn vs h1, _, ι', s.o, as, rfl, hk, hR.mem, rresM_of as vs h2.symm h3⟩
  cases e with
  | normal => exact fin hk
  | ret => exact fin hk
  | _ => exact hk.elim

/-- a function's contract, from its code -/
theorem ct_of (hT : Tys.ok P tt) (hM : P.follows .mixedOrders = true) {f : FuncId} {fn : Func} {c : Code} {args : List T} {r : List T} (hf : P.funcs[f]? = some fn) (hb : fn.body = some c) (hnm : fn.name ≠ "runtime.NumGoroutine")
    (hn : args.length ≤ fn.ntmps) (h : cwp P Hy tt cls c (retQ tt fn.results.toList fun as o => frzL o as fun ts _ => ts = r) (s0 fn.ntmps (args.map A.t) o0)) : Ct P Hy f args r := by
  refine ⟨⟨fn, hf, hnm, by rw [hb]; simp⟩, fun w cargs D hD hHy hsz harg => ?_⟩
  refine calls_of_wp hf hb ?_
  have h0 : Rel Hy (fun _ _ _ _ => True) w.heap.size D w (s0 fn.ntmps (args.map A.t) o0) (fun _ => undef) { tmps := cargs ++ Array.replicate (fn.ntmps - cargs.size) undef, defers := [] } w := by
    have hm : ∀ i, mb (s0 fn.ntmps (args.map A.t) o0).o (fun _ => undef) i = none := fun i => rfl
    refine ⟨Below.refl _ _, Nat.le_refl _, fun id => trivial, fun i j b e => (by rw [hm] at e; cases e), fun t v hv => ?_, rfl, ?_, hD, hHy, trivial, fun _ _ _ _ _ _ _ _ _ _ h => h⟩
    · show Ra w _ _ _ v (match (args.map A.t)[t]? with | some x => x | none => .junk)
      rw [List.getElem?_map]
      cases ht : args[t]? with
      | none => exact .junk
      | some x =>
        have htl := (List.getElem?_eq_some_iff.1 ht).1
        rw [Array.getElem?_append_left (by omega)] at hv
        exact .t ((harg t v x hv ht).wide (fun g hg => ⟨.inl hg, hD g hg, fun i e => (by rw [hm] at e; cases e)⟩))
    · simp [s0]
      omega
  refine cwp_ok hT hM c h0 (fun e s ι a w' hR hk => ?_) h
  have fin : (resK tt s fn.results.toList fun as => frzL s.o as fun ts _ => ts = r) → a.defers = [] ∧ ∃ v, (results fn a.tmps).run P w' = .ok v w' ∧ ∃ v', Ending.returned v = .returned v' ∧ Rres w' (fun g => D g ∨ (w.heap.size ≤ g ∧ g < w'.heap.size)) v' r ∧ Below w.heap.size w w' := fun hk => by
    obtain ⟨vs, as, h1, h2, h3, hk⟩ := resK_ok hT hR _ hk
    refine ⟨hR.df, _, results_run fn vs h1, _, rfl, ?_, hR.below⟩
    obtain ⟨ts, ids, g1, g2, g3, rfl⟩ := frzL_ok hR as (fun j => vs.getD j undef) h3 hk
    have cell : ∀ (j : Nat) t, ts[j]? = some t → Rt w' (fun g => D g ∨ (w.heap.size ≤ g ∧ g < w'.heap.size)) (vs.getD j undef) t := fun j t ht =>
      g3 j t ht _ (fun g hg => hg.1.imp id (fun h => ⟨h, hg.2.1⟩)) (fun q _ g hg => .inr (hR.mbB hg))
    exact rres_of _ _ (by rw [g2, h2]) cell
  cases e with
  | normal => exact fin hk
  | ret => exact fin hk
  | _ => exact hk.elim

/-- what is told may be known by what it does -/
theorem Ct.calls {f : FuncId} {args : List T} {r : List T} (h : Ct P Hy f args r) (w : World) (cargs : Array Value) (hHy : ∀ w', Below w.heap.size w w' → Hy w') (hsz : cargs.size = args.length) (harg : ∀ (j : Nat) v t, cargs[j]? = some v → args[j]? = some t → Rt w (fun g => g < w.heap.size) v t) :
    Calls P f cargs w fun e w' => ∃ v, e = .returned v ∧ Rres w' (fun g => g < w'.heap.size) v r ∧ Below w.heap.size w w' :=
  (h.go w cargs (fun g => g < w.heap.size) (fun _ h => h) hHy hsz harg).mono (fun e w' ⟨v, h1, h2, h3⟩ => ⟨v, h1, h2.imp (fun v t _ ht => ht.wide (fun g hg => by
    rcases hg with hg | hg
    · exact Nat.lt_of_lt_of_le hg h3.size
    · exact hg.2)), h3⟩)
end
end Go.Proofs.Ytpbfkpdfodmcaaa
