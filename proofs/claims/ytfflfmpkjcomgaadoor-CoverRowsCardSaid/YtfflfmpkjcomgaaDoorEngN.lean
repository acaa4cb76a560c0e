/- The engine, N: what an operation may do besides: calls with frozen arguments, nil slices, yields, panics. -/
import Derived.Test.YtfflfmpkjcomgaaDoorEngM
import Derived.Orders
import Derived.RangeFuncRecord
import Derived.WalkSpells
import Derived.Lib.LazyBuf
import Derived.RangeFuncSeq
namespace Go.Proofs.YtfflfmpkjcomgaaDoor
open Go.RowKit

section
variable {P : Program} {tt : Tys} {Hy : World → Prop} {X : World → (Nat → Prop) → (Nat → O) → (Nat → Value) → Prop} {cls : Nat → Nat} {B : Nat} {St : Nat → Prop} {Dp : List Deferred → Prop} {w0 w : World} {s : S} {ι : Nat → Value} {a : Act}

/-- a temporary's rows, deep down, stay as they are from now on: it holds their data -/
theorem StlS.frz {s : S} {j : Nat} {t0 : T} {up0 : Ups} (hj : j < s.n) (hf : frz s.o (s.t j) fun t up => t = t0 ∧ up = up0) : StlS s ((s.frz up0).put (some j) (.t t0)) := fun Hy X B St w0 Dp ι a w h => by
  have hl : j < a.tmps.size := by rw [h.sz]; exact hj
  obtain ⟨t, up, g1, g2, rfl, rfl⟩ := frz_ok h (h.tm j _ (Array.getElem?_eq_getElem hl)) hf
  obtain ⟨k1, _, _⟩ := h.frz g1
  have hr := g2.rt h g1
  refine ⟨k1.below, k1.hB, k1.ob, k1.inj, fun i v hv => ?_, k1.dv, k1.sz, k1.stB, k1.hy, k1.x, k1.xd⟩
  show Ra _ _ _ _ _ (if i = j then .t t else (s.frz up).t i)
  split
  · rename_i e
    subst e
    rw [Array.getElem?_eq_getElem hl] at hv
    cases hv
    exact .t hr
  · exact k1.tm i v hv
/-- a call whose arguments are frozen, and which may turn objects -/
def opF (P : Program) (Hy : World → Prop) (ops : List Oper) (o : Oper) (s : S) (K : S → Prop) : Prop := gOk ops o s ∧ match o.op with
  | .call c => match c.callee with
    | .value (.func f) => frzL s.o (c.args.toList.map s.ev) fun ts up => ∃ R, Cm P Hy f (ts.map A.t) (s.frz up).o R ∧ ∀ rs o', R rs o' → K ((⟨s.n, s.t, o'⟩ : S).put o.dst (resM rs))
    | _ => False
  | _ => False
theorem gOk_wanted (h : Rel Hy X B St w0 Dp s ι a w) {ops : Array Oper} {o : Oper} (hg : gOk ops.toList o s) : Region.wanted o (yielded ops a.tmps) = true := by
  unfold gOk at hg
  split at hg
  · rename_i e
    simp [Region.wanted, e]
  · rename_i g want e
    split at hg
    · rename_i t ht
      obtain ⟨htn, hg⟩ := hg
      have ht2 : (ops[g]?).bind (·.dst) = some t := by simpa using ht
      have hl : t < a.tmps.size := by rw [h.sz]; exact htn
      have htm := h.tm t _ (Array.getElem?_eq_getElem hl)
      rw [hg] at htm
      have hq := htm.bool
      have hy : yielded ops a.tmps g = some want := by
        unfold yielded
        simp only [ht2, Option.bind_some, Array.getElem?_eq_getElem hl, hq]
      simp [Region.wanted, e, hy]
    · exact hg.elim
theorem opF_ok {ro : Option Nat} {n : Nat} (h : Rel Hy X B St w0 Dp s ι a w) {Q : Exit → Act → World → Prop} {ops : Array Oper} {i : Nat} {o : Oper} (ho : ops[i]? = some o) {K : S → Prop} {K' : Act → World → Prop} (hs : Sim Hy X B St w0 Dp K K') (hk : opF P Hy ops.toList o s K) : wpOpIn (FW ro) n P ops Q i K' a w := by
  obtain ⟨hg, hk⟩ := hk
  unfold wpOpIn
  simp only [ho]
  rw [if_pos (gOk_wanted h hg)]
  refine wp_in (fun c e => by rw [e] at hk; exact hk.elim) ?_
  unfold Oper.wp
  obtain ⟨dst, op, type, pos, after, guard⟩ := o
  cases op <;> first | exact hk.elim | skip
  rename_i c
  obtain ⟨callee, args, tys⟩ := c
  cases callee with
  | builtin b => exact hk.elim
  | invoke r m => exact hk.elim
  | value f =>
    cases f with
    | const v => exact hk.elim
    | global g => exact hk.elim
    | tmp t => exact hk.elim
    | func f =>
      have ha := h.alike args
      obtain ⟨ts, up, g1, g2, g3, R, hc, hk⟩ := frzL_ok h (args.toList.map s.ev) (fun j => (args.map a.eval).getD j undef) (fun j x hx => by
        obtain ⟨c, hc, hr⟩ := ha.2 j x hx
        rw [show (args.map a.eval).getD j undef = c by rw [Array.getD_eq_getD_getElem?, hc]; rfl]
        exact hr) hk
      obtain ⟨fn, f1, f2, f3⟩ := hc.fn
      obtain ⟨k1, k2, k3⟩ := h.frz g1
      have run : (execOp a.eval ⟨dst, .call ⟨.value (.func f), args, tys⟩, type, pos, after, guard⟩).run P w = .ok (.enter f (args.map a.eval)) w := by
        simp [execOp, resolve, Deferred.ofValue, Act.eval, invoke, callFunc, f1, f2, f3]
      rw [run]
      refine cm_call k1 hs hc (by rw [List.length_map, g2]; exact ha.1) (fun j v x hv hx => ?_) (fun rs o' hR => ?_)
      · rw [List.getElem?_map] at hx
        obtain ⟨t, ht, rfl⟩ := Option.map_eq_some_iff.1 hx
        have := (g3 j t ht).rt h g1
        rw [show (args.map a.eval).getD j undef = v by rw [Array.getD_eq_getD_getElem?, hv]; rfl] at this
        exact .t this
      · rw [(frz_t s up).1, (frz_t s up).2]
        exact hk rs o' hR
/-- is a slice nil? of an empty one that came in nobody knows -/
def nilK (s : S) (x : A) (K : Bool → Prop) : Prop := match x with
  | .nilS => K true
  | .t (.sl l) => K false ∧ (l = [] → K true)
  | .row id g => g = (s.o id).gen ∧ match (s.o id).k with
    | .row _ _ l => K false ∧ (l = [] → K true)
    | .rowA _ _ l => K false ∧ (l = [] → K true)
    | .ro l => K false ∧ (l = [] → K true)
    | _ => False
  | _ => False
def opE (tt : Tys) (o : Oper) (s : S) (K : S → Prop) : Prop := o.guard = none ∧ match o.op with
  | .binOp op ty x y _ => optK (tt ty) fun d => match d.k with
    | .slice _ => s.ev y = .nilS ∧ match op with
      | .eql => nilK s (s.ev x) fun b => K (s.put o.dst (.t (.b b)))
      | .neq => nilK s (s.ev x) fun b => K (s.put o.dst (.t (.b !b)))
      | _ => False
    | _ => False
  | _ => False
theorem nilK_ok (h : Rel Hy X B St w0 Dp s ι a w) {x : Operand} {K : Bool → Prop} (hk : nilK s (s.ev x) K) : ∃ ad n c, a.eval x = .slice ad n c ∧ K ad.isNone := by
  have hx := h.ev x
  generalize a.eval x = vx at hx ⊢
  have dat : ∀ {v : Value} {l : List (List T)}, Rt w (Sd B St s.o ι w) v (.sl l) → (K false ∧ (l = [] → K true)) → ∃ ad n c, v = .slice ad n c ∧ K ad.isNone := fun {v l} hr hk => by
    cases hr with
    | sl0 ad c _ =>
      refine ⟨ad, 0, c, rfl, ?_⟩
      cases ad
      · exact hk.2 rfl
      · exact hk.1
    | sl g o n cap z l c => exact ⟨_, _, _, rfl, hk.1⟩
  have own : ∀ {ty : TypeId} {z n : Nat} {v : Value} {xs : List Value} {q : Prop}, w.ownsRow B ty z v n xs → (n = 0 → q) → (K false ∧ (q → K true)) → ∃ ad n c, v = .slice ad n c ∧ K ad.isNone := fun {ty z n v xs q} hr hq hk => by
    rcases hr.2 with ⟨rfl, hn⟩ | ⟨g, cap, cur, rfl, _⟩
    · exact ⟨none, 0, 0, rfl, hk.2 (hq hn)⟩
    · exact ⟨_, _, _, rfl, hk.1⟩
  unfold nilK at hk
  split at hk
  · rename_i e
    rw [e] at hx
    cases hx
    exact ⟨none, 0, 0, rfl, hk⟩
  · rename_i l e
    rw [e] at hx
    cases hx with
    | t hr => exact dat hr hk
  · rename_i id g e
    rw [e] at hx
    obtain ⟨hg, hk⟩ := hk
    rw [hx.row_get hg]
    have hob := h.ob id
    split at hk
    · rename_i ty z l hkk
      rw [hkk] at hob
      obtain ⟨_, xs, h2, _⟩ := hob
      exact own h2 (fun e => List.eq_nil_of_length_eq_zero e) hk
    · rename_i ty z l hkk
      rw [hkk] at hob
      obtain ⟨_, xs, h2, _⟩ := hob
      exact own h2 (fun e => List.eq_nil_of_length_eq_zero e) hk
    · rename_i l hkk
      rw [hkk] at hob
      exact dat hob hk
    · exact hk.elim
  · exact hk.elim
theorem opE_ok {ro : Option Nat} {n : Nat} (hT : Tys.ok P tt) (h : Rel Hy X B St w0 Dp s ι a w) {Q : Exit → Act → World → Prop} {ops : Array Oper} {i : Nat} {o : Oper} (ho : ops[i]? = some o) {K : S → Prop} {K' : Act → World → Prop} (hs : Sim Hy X B St w0 Dp K K') (hk : opE tt o s K) : wpOpIn (FW ro) n P ops Q i K' a w := by
  obtain ⟨hg, hk⟩ := hk
  unfold wpOpIn
  simp only [ho]
  rw [if_pos (by simp [Region.wanted, hg])]
  refine wp_in (fun c e => by rw [e] at hk; exact hk.elim) ?_
  unfold Oper.wp
  obtain ⟨dst, op, type, pos, after, guard⟩ := o
  cases op <;> first | exact hk.elim | skip
  rename_i op ty x y yt
  obtain ⟨d, hd, hk⟩ := optK_get hk
  obtain ⟨du, hu, hok, _⟩ := (hT _ _ hd).desc
  split at hk
  · rename_i e he
    rw [he] at hok
    simp only [TK.ok] at hok
    subst hok
    obtain ⟨hy, hk⟩ := hk
    have hyv := h.ev y
    rw [hy] at hyv
    have hyv2 : a.eval y = .slice none 0 0 := by
      generalize a.eval y = v at hyv
      cases hyv
      rfl
    have grd : ∀ (op : BinOp) (ad : Option Addr) (n c : Nat), (eqGuard op ty x y (.slice ad n c) (.slice none 0 0)).run P w = .ok () w := fun op ad n c => by
      unfold eqGuard
      cases op <;> rfl
    cases op
    case eql =>
      obtain ⟨ad, n, c, hv, hk⟩ := nilK_ok h hk
      have run : (execOp a.eval ⟨dst, .binOp .eql ty x y yt, type, pos, after, guard⟩).run P w = .ok (.value (.bool ad.isNone)) w := by
        simp only [execOp, hv, hyv2, Sem.run_bind, grd, Result.andThen, Go.run_eql_slice_nil w ty e ad n c hu]
        rfl
      rw [run]
      exact hs _ ι _ _ (h.pure _ _ _ (fun _ => .t (.b _))) hk
    case neq =>
      obtain ⟨ad, n, c, hv, hk⟩ := nilK_ok h hk
      have run : (execOp a.eval ⟨dst, .binOp .neq ty x y yt, type, pos, after, guard⟩).run P w = .ok (.value (.bool (!ad.isNone))) w := by
        simp only [execOp, hv, hyv2, Sem.run_bind, grd, Result.andThen, run_neq_slice_nil_any w ty e ad n c 0 0 hu]
        rfl
      rw [run]
      exact hs _ ι _ _ (h.pure _ _ _ (fun _ => .t (.b _))) hk
    all_goals exact hk.elim
  · exact hk.elim
/-- what a call of yield comes to: of what it is called with, where objects are so, after which this is so of objects -/
abbrev YC := List A → (Nat → O) → ((Nat → O) → Prop) → Prop
/-- where code runs: the loop that is yielded to, what yields come to, what is so behind a panic -/
structure Env where
  l : Nat
  y : YC
  p : S → Prop
def XT (X T : World → (Nat → Prop) → (Nat → O) → (Nat → Value) → Prop) : World → (Nat → Prop) → (Nat → O) → (Nat → Value) → Prop := fun w D o ι => X w D o ι ∧ T w D o ι
def YOk (P : Program) (Hy : World → Prop) (X : World → (Nat → Prop) → (Nat → O) → (Nat → Value) → Prop) (B : Nat) (St : Nat → Prop) (w0 : World) (n l : Nat) (Y : YC) : Prop :=
  ∀ args o R, Y args o R → ∀ (T : World → (Nat → Prop) → (Nat → O) → (Nat → Value) → Prop) (ι : Nat → Value) (W : World) (cx : Array Value), XC T 0 → Mem Hy (XT X T) B St w0 o ι W → cx.size = args.length → (∀ (j : Nat) v x, cx[j]? = some v → args[j]? = some x → Ra W (Sd B St o ι W) o ι v x) →
    YieldAt (FW none) n P l cx W fun e W' => e = .returned (.bool true) ∧ ∃ o' ι', R o' ∧ Mem Hy (XT X T) B St w0 o' ι' W'
/-- may a yield be here? -/
def YH (P : Program) (Hy : World → Prop) (X : World → (Nat → Prop) → (Nat → O) → (Nat → Value) → Prop) (B : Nat) (St : Nat → Prop) (w0 : World) (Dp : List Deferred → Prop) (ro : Option Nat) (n : Nat) (E : Env) : Prop := (∀ args o R, ¬ E.y args o R) ∨ (ro = none ∧ (∀ d, Dp d → d = []) ∧ YOk P Hy X B St w0 (n - 1) E.l E.y)
def opY (ops : List Oper) (E : Env) (o : Oper) (s : S) (K : S → Prop) : Prop := gOk ops o s ∧ match o.op with
  | .call c => match c.callee with
    | .value (.tmp t) => s.ev (.tmp t) = .t (.yl E.l) ∧ ∃ R, E.y (c.args.toList.map s.ev) s.o R ∧ ∀ o', R o' → K ((⟨s.n, s.t, o'⟩ : S).put o.dst (.t (.b true)))
    | _ => False
  | _ => False
theorem opY_ok {ro : Option Nat} {n : Nat} {E : Env} (hY : YH P Hy X B St w0 Dp ro n E) (h : Rel Hy X B St w0 Dp s ι a w) {Q : Exit → Act → World → Prop} {ops : Array Oper} {i : Nat} {o : Oper} (ho : ops[i]? = some o) {K : S → Prop} {K' : Act → World → Prop} (hs : Sim Hy X B St w0 Dp K K') (hk : opY ops.toList E o s K) : wpOpIn (FW ro) n P ops Q i K' a w := by
  obtain ⟨hg, hk⟩ := hk
  unfold wpOpIn
  simp only [ho]
  rw [if_pos (gOk_wanted h hg)]
  obtain ⟨dst, op, type, pos, after, guard⟩ := o
  cases op <;> first | exact hk.elim | skip
  rename_i c
  obtain ⟨callee, args, tys⟩ := c
  obtain ⟨az, ae⟩ := args_ev h args
  cases callee with
  | builtin b => exact hk.elim
  | invoke r m => exact hk.elim
  | value f =>
    cases f with
    | const v => exact hk.elim
    | global g => exact hk.elim
    | func f => exact hk.elim
    | tmp t =>
      obtain ⟨hyl, R, hy, hk⟩ := hk
      rcases hY with hY | ⟨rfl, hDp, hY⟩
      · exact absurd hy (hY _ _ _)
      have hx := h.ev (.tmp t)
      rw [hyl] at hx
      have hv : a.eval (.tmp t) = .func (.yield E.l) #[] #[] := by
        generalize a.eval (.tmp t) = v at hx
        cases hx with
        | t hr => cases hr; rfl
      have hd : a.defers = [] := hDp _ h.dv
      obtain ⟨N, L, n1, n2, n3, n4, n5⟩ := h.xd
      have hM : Mem Hy (XT X fun w D o ι => (∀ (t : Nat) v, a.tmps[t]? = some v → Ra w D o ι v (s.t t)) ∧ N ≤ w.heap.size) B St w0 s.o ι w :=
        ⟨h.below, h.hB, h.ob, h.inj, h.stB, h.hy, ⟨h.x, h.tm, n1⟩, N, n1, fun w1 D o ι w' D' o' ι' mT mA hz hk hx => ⟨n2 _ _ _ _ _ _ _ _ mT mA hz hk hx.1, fun t v e => mA _ _ (hx.2.1 t v e), Nat.le_trans hx.2.2 hz⟩⟩
      obtain ⟨fn, tmps, assign, body, hyr, hr⟩ := hY _ _ _ hy (fun w D o ι => (∀ (t : Nat) v, a.tmps[t]? = some v → Ra w D o ι v (s.t t)) ∧ N ≤ w.heap.size) ι w (args.map a.eval) (fun w1 D o ι w' D' o' ι' mT mA hz hk hx => ⟨fun t v e => mA _ _ (hx.1 t v e), Nat.le_trans hx.2 hz⟩) hM az ae
      refine ⟨fun f _ => FW_fn f, ?_⟩
      rw [Oper.semAt_eq _ _ _ (fun c e => by cases e)]
      have run : (execOp a.eval ⟨dst, .call ⟨.value (.tmp t), args, tys⟩, type, pos, after, guard⟩).run P w = .ok (.round E.l fn tmps assign body) w := by
        simp only [execOp, resolve, hv]
        simp [Deferred.ofValue, invoke, hyr]
      rw [run]
      refine ⟨fun e => (by rw [FW_depth] at e; cases e), ?_⟩
      refine RoundIn.mono hr ?_
      rintro e W' ⟨rfl, o', ι', hR, hM'⟩
      have h' : Rel Hy X B St w0 Dp ⟨s.n, s.t, o'⟩ ι' a W' := ⟨hM'.below, hM'.hB, hM'.ob, hM'.inj, hM'.x.2.1, h.dv, h.sz, hM'.stB, hM'.hy, hM'.x.1, N, [], hM'.x.2.2, n2, by rw [hd]; exact DefIs.nil, List.nodup_nil, fun D hD => (by cases hD)⟩
      exact hs _ ι' _ _ (h'.pure dst (.t (.b true)) (.bool true) (fun _ => .t (.b true))) (hk o' hR)
/-- what is so behind a panic is so of memory -/
def SimP (Hy : World → Prop) (X : World → (Nat → Prop) → (Nat → O) → (Nat → Value) → Prop) (B : Nat) (St : Nat → Prop) (w0 : World) (Dp : List Deferred → Prop) (E : Env) (Q : Exit → Act → World → Prop) : Prop := ∀ s ι a w, Rel Hy X B St w0 Dp s ι a w → E.p s → ∀ v, Ra w (Sd B St s.o ι w) s.o ι v (s.t s.n) → Q (.panic [{ v, recovered := false }]) a w
/-- a state, with what is panicked with -/
def S.pan (s : S) (x : A) (o' : Nat → O) : S := ⟨s.n, fun j => if j = s.n then x else s.t j, o'⟩
theorem Rel.pan (h : Rel Hy X B St w0 Dp s ι a w) (x : A) : Rel Hy X B St w0 Dp (s.pan x s.o) ι a w :=
  ⟨h.below, h.hB, h.ob, h.inj, fun t v e => by
    have hl := (Array.getElem?_eq_some_iff.1 e).1
    show Ra w _ _ _ v (if t = s.n then x else s.t t)
    rw [if_neg (by rw [← h.sz]; omega)]
    exact h.tm t v e, h.dv, h.sz, h.stB, h.hy, h.x, h.xd⟩
theorem pan_t (s : S) (x : A) (o' : Nat → O) : (s.pan x o').t (s.pan x o').n = x := if_pos rfl
def opP (ops : List Oper) (E : Env) (o : Oper) (s : S) : Prop := gOk ops o s ∧ match o.op with
  | .panic x => match s.ev x with
    | .t (.ifc ty y) => E.p (s.pan (.t (.ifc ty y)) s.o)
    | _ => False
  | _ => False
theorem opP_ok {ro : Option Nat} {n : Nat} {E : Env} {Q : Exit → Act → World → Prop} (hP : SimP Hy X B St w0 Dp E Q) (h : Rel Hy X B St w0 Dp s ι a w) {ops : Array Oper} {i : Nat} {o : Oper} (ho : ops[i]? = some o) {K' : Act → World → Prop} (hk : opP ops.toList E o s) : wpOpIn (FW ro) n P ops Q i K' a w := by
  obtain ⟨hg, hk⟩ := hk
  unfold wpOpIn
  simp only [ho]
  rw [if_pos (gOk_wanted h hg)]
  refine wp_in (fun c e => by rw [e] at hk; exact hk.elim) ?_
  unfold Oper.wp
  obtain ⟨dst, op, type, pos, after, guard⟩ := o
  cases op <;> first | exact hk.elim | skip
  rename_i x
  simp only at hk
  split at hk
  · rename_i ty y e
    have hx := h.ev x
    rw [e] at hx
    obtain ⟨v, hv⟩ : ∃ v, a.eval x = .iface ty v := by
      generalize a.eval x = u at hx
      cases hx with
      | t hr => cases hr with
        | ifc ty v x hr => exact ⟨v, rfl⟩
    have run : (execOp a.eval ⟨dst, .panic x, type, pos, after, guard⟩).run P w = .halt (.panic (.iface ty v)) w := by
      simp [execOp, hv, Instr.panic, goPanic]
    rw [run]
    rw [hv] at hx
    exact hP _ ι a w (h.pan _) hk _ (by rw [pan_t]; exact hx)
  · exact hk.elim
/-- a function that tells values, or panics -/
structure Cp (P : Program) (Hy : World → Prop) (f : FuncId) (args : List A) (o : Nat → O) (R : List A → (Nat → O) → Prop) (Rp : A → (Nat → O) → Prop) : Prop where
  fn : ∃ fn, P.funcs[f]? = some fn ∧ fn.name ≠ "runtime.NumGoroutine" ∧ fn.body ≠ none
  go : ∀ X B St w0 ι w (cargs : Array Value), Mem Hy X B St w0 o ι w → cargs.size = args.length → (∀ (j : Nat) v x, cargs[j]? = some v → args[j]? = some x → Ra w (Sd B St o ι w) o ι v x) →
    Calls P f cargs w fun e w' => (∃ v ι' o' rs, e = .returned v ∧ R rs o' ∧ Mem Hy X B St w0 o' ι' w' ∧ RresM w' (Sd B St o' ι' w') o' ι' v rs) ∨ ∃ v ι' o' x, e = .panicked [{ v, recovered := false }] ∧ Rp x o' ∧ Mem Hy X B St w0 o' ι' w' ∧ Ra w' (Sd B St o' ι' w') o' ι' v x
theorem Cp.mono {f : FuncId} {args : List A} {o : Nat → O} {R R' : List A → (Nat → O) → Prop} {Rp Rp' : A → (Nat → O) → Prop} (h : Cp P Hy f args o R Rp) (hr : ∀ rs o', R rs o' → R' rs o') (hp : ∀ x o', Rp x o' → Rp' x o') : Cp P Hy f args o R' Rp' :=
  ⟨h.fn, fun X B St w0 ι w cargs hM hs ha => (h.go X B St w0 ι w cargs hM hs ha).mono (fun _ _ he => he.imp (fun ⟨v, ι', o', rs, h1, h2, h3⟩ => ⟨v, ι', o', rs, h1, hr _ _ h2, h3⟩) (fun ⟨v, ι', o', x, h1, h2, h3⟩ => ⟨v, ι', o', x, h1, hp _ _ h2, h3⟩))⟩
def opC (P : Program) (Hy : World → Prop) (ops : List Oper) (E : Env) (o : Oper) (s : S) (K : S → Prop) : Prop := gOk ops o s ∧ match o.op with
  | .call c => match c.callee with
    | .value (.func f) => ∃ R Rp, Cp P Hy f (c.args.toList.map s.ev) s.o R Rp ∧ (∀ rs o', R rs o' → K ((⟨s.n, s.t, o'⟩ : S).put o.dst (resM rs))) ∧ ∀ x o', Rp x o' → E.p (s.pan x o')
    | _ => False
  | _ => False
theorem opC_ok {ro : Option Nat} {n : Nat} {E : Env} {Q : Exit → Act → World → Prop} (hP : SimP Hy X B St w0 Dp E Q) (h : Rel Hy X B St w0 Dp s ι a w) {ops : Array Oper} {i : Nat} {o : Oper} (ho : ops[i]? = some o) {K : S → Prop} {K' : Act → World → Prop} (hs : Sim Hy X B St w0 Dp K K') (hk : opC P Hy ops.toList E o s K) : wpOpIn (FW ro) n P ops Q i K' a w := by
  obtain ⟨hg, hk⟩ := hk
  unfold wpOpIn
  simp only [ho]
  rw [if_pos (gOk_wanted h hg)]
  refine wp_in (fun c e => by rw [e] at hk; exact hk.elim) ?_
  unfold Oper.wp
  obtain ⟨dst, op, type, pos, after, guard⟩ := o
  cases op <;> first | exact hk.elim | skip
  rename_i c
  obtain ⟨callee, args, tys⟩ := c
  obtain ⟨az, ae⟩ := args_ev h args
  cases callee with
  | builtin b => exact hk.elim
  | invoke r m => exact hk.elim
  | value f =>
    cases f with
    | const v => exact hk.elim
    | global g => exact hk.elim
    | tmp t => exact hk.elim
    | func f =>
      obtain ⟨R, Rp, hc, hk, hp⟩ := hk
      obtain ⟨fn, f1, f2, f3⟩ := hc.fn
      have run : (execOp a.eval ⟨dst, .call ⟨.value (.func f), args, tys⟩, type, pos, after, guard⟩).run P w = .ok (.enter f (args.map a.eval)) w := by
        simp [execOp, resolve, Deferred.ofValue, Act.eval, invoke, callFunc, f1, f2, f3]
      rw [run]
      obtain ⟨N, L, n1, n2, n3, n4, n5⟩ := h.xd
      have hM : Mem Hy (fun w D o ι => X w D o ι ∧ (∀ (t : Nat) v, a.tmps[t]? = some v → Ra w D o ι v (s.t t)) ∧ N ≤ w.heap.size ∧ ∀ D ∈ L, w.heap[D]? = some (.deferred (some []))) B St w0 s.o ι w :=
        ⟨h.below, h.hB, h.ob, h.inj, h.stB, h.hy, ⟨h.x, h.tm, n1, fun D hD => (n5 D hD).2.2⟩, w.heap.size, Nat.le_refl _, fun w1 D o ι w' D' o' ι' mT mA hz hk hx => ⟨n2 _ _ _ _ _ _ _ _ mT mA hz (fun b ob hb => hk b ob (Nat.lt_of_lt_of_le hb n1)) hx.1, fun t v e => mA _ _ (hx.2.1 t v e), Nat.le_trans hx.2.2.1 hz,
          fun D hD => hk D _ (Array.getElem?_eq_some_iff.1 (n5 D hD).2.2).1 (oth_def _) (hx.2.2.2 D hD)⟩⟩
      refine (hc.go _ B St w0 ι w (args.map a.eval) hM az ae).mono ?_
      rintro e w' (⟨v, ι', o', rs, rfl, hR, hM', hv⟩ | ⟨v, ι', o', x, rfl, hR, hM', hv⟩)
      · have h' : Rel Hy X B St w0 Dp ⟨s.n, s.t, o'⟩ ι' a w' := ⟨hM'.below, hM'.hB, hM'.ob, hM'.inj, hM'.x.2.1, h.dv, h.sz, hM'.stB, hM'.hy, hM'.x.1, N, L, hM'.x.2.2.1, n2, n3, n4, fun D hD => ⟨(n5 D hD).1, (n5 D hD).2.1, hM'.x.2.2.2 D hD⟩⟩
        exact hs _ ι' _ _ (h'.pure dst (resM rs) v (fun _ => resM_ok hv)) (hk rs o' hR)
      · have h' : Rel Hy X B St w0 Dp ⟨s.n, s.t, o'⟩ ι' a w' := ⟨hM'.below, hM'.hB, hM'.ob, hM'.inj, hM'.x.2.1, h.dv, h.sz, hM'.stB, hM'.hy, hM'.x.1, N, L, hM'.x.2.2.1, n2, n3, n4, fun D hD => ⟨(n5 D hD).1, (n5 D hD).2.1, hM'.x.2.2.2 D hD⟩⟩
        exact hP _ ι' a w' (h'.pan x) (hp x o' hR) v (by rw [pan_t]; exact hv)
/-- one operation, whatever it may do -/
def stepM (P : Program) (Hy : World → Prop) (tt : Tys) (cls : Nat → Nat) (E : Env) (ops : List Oper) (o : Oper) (s : S) (K : S → Prop) : Prop := opK P Hy tt cls ops o s K ∨ opM P Hy ops o s K ∨ opF P Hy ops o s K ∨ opE tt o s K ∨ (∃ c, opK P Hy tt c ops o s K) ∨ opY ops E o s K ∨ opP ops E o s ∨ opC P Hy ops E o s K
theorem stepM_ok {ro : Option Nat} {n : Nat} {E : Env} (hT : Tys.ok P tt) {Q : Exit → Act → World → Prop} (hY : YH P Hy X B St w0 Dp ro n E) (hP : SimP Hy X B St w0 Dp E Q) (h : Rel Hy X B St w0 Dp s ι a w) {ops : Array Oper} {i : Nat} {o : Oper} (ho : ops[i]? = some o) {K : S → Prop} {K' : Act → World → Prop} (hs : Sim Hy X B St w0 Dp K K') (hk : stepM P Hy tt cls E ops.toList o s K) : wpOpIn (FW ro) n P ops Q i K' a w := by
  rcases hk with hk | hk | hk | hk | ⟨c, hk⟩ | hk | hk | hk
  · exact opK_ok hT h ho hs hk
  · exact opM_ok h ho hs hk
  · exact opF_ok h ho hs hk
  · exact opE_ok hT h ho hs hk
  · exact opK_ok hT h ho hs hk
  · exact opY_ok hY h ho hs hk
  · exact opP_ok hP h ho hk
  · exact opC_ok hP h ho hs hk
end
end Go.Proofs.YtfflfmpkjcomgaaDoor
