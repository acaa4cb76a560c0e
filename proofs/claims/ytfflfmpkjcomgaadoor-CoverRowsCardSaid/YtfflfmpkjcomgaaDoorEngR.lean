/- The engine, R: functions with a deferred call that recovers. -/
import Derived.Test.YtfflfmpkjcomgaaDoorEng15
import Derived.RecoverIn
namespace Go.Proofs.YtfflfmpkjcomgaaDoor
open Go.RowKit

section
variable {P : Program} {tt : Tys} {Hy : World → Prop} {X : World → (Nat → Prop) → (Nat → O) → (Nat → Value) → Prop} {cls : Nat → Nat} {B : Nat} {St : Nat → Prop} {w0 w : World} {s : S} {ι : Nat → Value} {a : Act}
/-- how a function leaves: it returns, or panics with this -/
def modeOf (x : Option A) (v : Value) : FrameMode := match x with
  | none => .returning
  | some _ => .panicking [{ v, recovered := false }]
/-- a deferred closure, called when a function returns, or panics with this: it turns objects so, and the function returns -/
structure Cr (P : Program) (Hy : World → Prop) (f : FuncId) (args : List A) (o : Nat → O) (x : Option A) (R : (Nat → O) → Prop) : Prop where
  fn : ∃ fn, P.funcs[f]? = some fn ∧ fn.name ≠ "runtime.NumGoroutine" ∧ fn.body ≠ none
  go : ∀ X B St w0 ι w (cargs : Array Value) (v : Value), Mem Hy X B St w0 o ι w → cargs.size = args.length → (∀ (j : Nat) v x, cargs[j]? = some v → args[j]? = some x → Ra w (Sd B St o ι w) o ι v x) →
    (∀ z, x = some z → Ra w (Sd B St o ι w) o ι v z) →
    CallsDIn Fence.wide 0 P f cargs (modeOf x v) w fun e u' w' => (∃ r, e = .returned r) ∧ settle u' = .returning ∧ ∃ ι' o', R o' ∧ Mem Hy X B St w0 o' ι' w'
theorem recoverD_none {c₀ : Frame} {cs : List Frame} (h : c₀.mode = .returning) : recoverD (c₀ :: cs) = none := by
  simp [recoverD, h]
theorem recoverD_some {c₀ : Frame} {cs : List Frame} {v : Value} (h : c₀.mode = .panicking [{ v, recovered := false }]) : recoverD (c₀ :: cs) = some (v, { c₀ with mode := .panicking [{ v, recovered := true }] } :: cs) := by
  simp [recoverD, h]
/-- what is told when a deferred closure is through -/
def endR (R : (Nat → O) → Prop) : Exit → S → Prop
  | .normal, s => R s.o
  | .ret, s => R s.o
  | _, _ => False
theorem cr_of (hT : Tys.ok P tt) (hM : P.follows .mixedOrders = true) {f : FuncId} {fn : Func} {id : Nat} {ops : Array Oper} {y : Code} {args : List A} {o : Nat → O} {x : Option A} {R : (Nat → O) → Prop} {t u : Nat} {tys : Array TypeId} {ty1 ty2 : TypeId} {p1 p2 : String} {af1 af2 : Array Edge}
    (hf : P.funcs[f]? = some fn) (hb : fn.body = some (.seq (.region id ops false) y)) (hops : ops.toList = [⟨some t, .call ⟨.builtin .recover, #[], tys⟩, ty1, p1, af1, none⟩, ⟨some u, .assign (.tmp t), ty2, p2, af2, none⟩]) (hres : fn.results = #[]) (hnm : fn.name ≠ "runtime.NumGoroutine")
    (hn : args.length ≤ fn.ntmps) (ht : t < fn.ntmps) (h : cwp P Hy tt cls E0 false y (endR R) (((s0 fn.ntmps args o).put (some t) (x.getD (.t .nif))).put (some u) (x.getD (.t .nif)))) : Cr P Hy f args o x R := by
  refine ⟨⟨fn, hf, hnm, by rw [hb]; simp⟩, fun X B St w0 ι w cargs v hMm hsz harg hv => ?_⟩
  refine callsDIn_of_wpSIn hf hb trivial fun c₀ cs hc₀ => ?_
  have h0 : Rel Hy X B St w0 (fun d => d = []) (s0 fn.ntmps args o) ι { tmps := cargs ++ Array.replicate (fn.ntmps - cargs.size) undef, defers := [] } w := rel0 hMm hn hsz harg rfl
  generalize ha0 : ({ tmps := cargs ++ Array.replicate (fn.ntmps - cargs.size) undef, defers := [] } : Act) = a0 at h0 ⊢
  have htn : t < a0.tmps.size := by rw [h0.sz]; exact ht
  -- what recover tells, and whom it leaves behind
  obtain ⟨rv, u', hrec, hset, hrv⟩ : ∃ (rv : Value) (u' : FrameMode), (match recoverD (c₀ :: cs) with | some (v, cs') => (v, cs') | none => (.nilIface, c₀ :: cs)) = (rv, { c₀ with mode := u' } :: cs) ∧ settle u' = .returning ∧ Ra w (Sd B St (s0 fn.ntmps args o).o ι w) (s0 fn.ntmps args o).o ι rv (x.getD (.t .nif)) := by
    cases x with
    | none =>
      rw [recoverD_none hc₀]
      have hm : c₀.mode = FrameMode.returning := hc₀
      have hc : ({ c₀ with mode := .returning } : Frame) = c₀ := by cases c₀; cases hm; rfl
      exact ⟨.nilIface, .returning, by rw [hc], rfl, .t .nif⟩
    | some z =>
      rw [recoverD_some hc₀]
      exact ⟨v, _, rfl, rfl, hv z rfl⟩
  have h1 := h0.pure (some t) (x.getD (.t .nif)) rv (fun _ => hrv)
  have h2 := h1.pure (some u) (x.getD (.t .nif)) rv (fun _ => by
    have e : ((s0 fn.ntmps args o).put (some t) (x.getD (.t .nif))).o = (s0 fn.ntmps args o).o := rfl
    rw [e]
    exact hrv)
  have hfin : y.wpSIn Fence.wide 0 P (bodyPostS P fn c₀ cs fun e u' w' => (∃ r, e = .returned r) ∧ settle u' = .returning ∧ ∃ ι' o', R o' ∧ Mem Hy X B St w0 o' ι' w') ((a0.put (some t) rv).put (some u) rv) ({ c₀ with mode := u' } :: cs) w := by
    refine wpSIn_of_wpIn rfl (cwp_ok (E := E0) (ro := none) (nn := 0) (top := false) hT hM y (fun e => by cases e) (.inl fun _ _ _ e => e) h2 (fun e s ι' a w' hR hk => ?_) h)
    have fin : R s.o → bodyPostS P fn c₀ cs (fun e u' w' => (∃ r, e = .returned r) ∧ settle u' = .returning ∧ ∃ ι' o', R o' ∧ Mem Hy X B St w0 o' ι' w') .normal a ({ c₀ with mode := u' } :: cs) w' := fun hk =>
      ⟨hR.dv, u', rfl, .tuple #[], by simp [results, hres, go_sem], ⟨_, rfl⟩, hset, ι', s.o, hk, hR.mem⟩
    cases e with
    | normal => exact fin hk
    | ret => exact fin hk
    | _ => exact hk.elim
  refine wpSIn_seq ?_
  have hsz2 : ops.size = 2 := by rw [← Array.length_toList, hops]; rfl
  have hg0 : ops[0]? = some ⟨some t, .call ⟨.builtin .recover, #[], tys⟩, ty1, p1, af1, none⟩ := by rw [← Array.getElem?_toList, hops]; rfl
  have hg1 : ops[1]? = some ⟨some u, .assign (.tmp t), ty2, p2, af2, none⟩ := by rw [← Array.getElem?_toList, hops]; rfl
  refine wpSIn_region ?_
  rw [hsz2]
  show wpOpsSIn Fence.wide 0 P ops _ [0, 1] a0 (c₀ :: cs) w
  unfold wpOpsSIn
  rw [hg0]
  refine ⟨fun _ _ => trivial, ?_⟩
  rw [if_pos (by simp [Region.wanted])]
  have run : (execOp a0.eval ⟨some t, .call ⟨.builtin .recover, #[], tys⟩, ty1, p1, af1, none⟩).run P w = .ok .recover w := by
    simp [go_sem]
  rw [run]
  have step2 : ∀ cs', cs' = { c₀ with mode := u' } :: cs → wpOpsSIn Fence.wide 0 P ops (Exit.thenS (y.wpSIn Fence.wide 0 P (bodyPostS P fn c₀ cs fun e u' w' => (∃ r, e = .returned r) ∧ settle u' = .returning ∧ ∃ ι' o', R o' ∧ Mem Hy X B St w0 o' ι' w')) (bodyPostS P fn c₀ cs fun e u' w' => (∃ r, e = .returned r) ∧ settle u' = .returning ∧ ∃ ι' o', R o' ∧ Mem Hy X B St w0 o' ι' w')) [1] (a0.put (some t) rv) cs' w := by
    rintro cs' rfl
    unfold wpOpsSIn
    rw [hg1]
    refine ⟨fun _ _ => trivial, ?_⟩
    rw [if_pos (by simp [Region.wanted])]
    have run2 : (execOp (a0.put (some t) rv).eval ⟨some u, .assign (.tmp t), ty2, p2, af2, none⟩).run P w = .ok (.value rv) w := by
      simp [execOp, go_sem]
      intro h
      omega
    rw [run2]
    exact hfin
  cases hq : recoverD (c₀ :: cs) with
  | none =>
    rw [hq] at hrec
    simp only [Prod.mk.injEq] at hrec
    obtain ⟨e1, e2⟩ := hrec
    subst e1
    exact step2 _ e2
  | some q =>
    obtain ⟨qv, qcs⟩ := q
    rw [hq] at hrec
    simp only [Prod.mk.injEq] at hrec
    obtain ⟨e1, e2⟩ := hrec
    subst e1
    exact step2 _ e2
/-- what is told at the end of a function with a deferred closure -/
def retD (P : Program) (Hy : World → Prop) (tt : Tys) (rs : List ResultVar) (g : FuncId) (caps : List A) (R : List A → (Nat → O) → Prop) : Exit → S → Prop
  | .normal, s => ∃ Rc, Cr P Hy g caps s.o none Rc ∧ ∀ o', Rc o' → resK tt ⟨s.n, s.t, o'⟩ rs fun as => R as o'
  | .ret, s => ∃ Rc, Cr P Hy g caps s.o none Rc ∧ ∀ o', Rc o' → resK tt ⟨s.n, s.t, o'⟩ rs fun as => R as o'
  | .panic _, s => ∃ Rc, Cr P Hy g caps s.o (some (s.t s.n)) Rc ∧ ∀ o', Rc o' → resK tt ⟨s.n, s.t, o'⟩ rs fun as => R as o'
  | _, _ => False
/-- the closure that is deferred ahead of all -/
def DpC (d : Deferred) (ds : List Deferred) : Prop := ∃ M, AllM M ∧ ds = M ++ [d]
theorem DpC.bs {d : Deferred} (hd : ∀ D, d.target ≠ .collected D) : ∀ {L : List Nat} {M bs : List Deferred}, L.map mark ++ bs = M ++ [d] → AllM M → (∀ d ∈ bs, ∀ D, d.target ≠ .collected D) → bs = [d]
  | [], [], bs, e, _, _ => by simpa using e
  | [], m :: M, bs, e, hM, hbs => by
    obtain ⟨D, hm⟩ := hM m List.mem_cons_self
    have : m ∈ bs := by
      have e : bs = m :: (M ++ [d]) := by simpa using e
      rw [e]
      exact List.mem_cons_self
    exact absurd (by rw [hm]; rfl) (hbs m this D)
  | D :: L, [], bs, e, _, _ => by
    simp only [List.map_cons, List.cons_append, List.nil_append, List.cons.injEq] at e
    exact absurd (by rw [← e.1]; rfl) (hd D)
  | D :: L, m :: M, bs, e, hM, hbs => by
    simp only [List.map_cons, List.cons_append, List.cons.injEq] at e
    exact DpC.bs hd e.2 (fun x hx => hM x (List.mem_cons_of_mem _ hx)) hbs
/-- what goes along, from where the closure is deferred on -/
abbrev XD (X : World → (Nat → Prop) → (Nat → O) → (Nat → Value) → Prop) (cv : Array Value) (caps : List A) (N0 : Nat) : World → (Nat → Prop) → (Nat → O) → (Nat → Value) → Prop := XT X fun w D o ι => (∀ (j : Nat) v x, cv[j]? = some v → caps[j]? = some x → Ra w D o ι v x) ∧ N0 ≤ w.heap.size
theorem leavesD (hT : Tys.ok P tt) {nn : Nat} {fn : Func} {R : List A → (Nat → O) → Prop} {g : FuncId} {caps : List A} {cv : Array Value} {x : Option A} {v : Value} {N0 : Nat} (nX : XC X N0) (hcv : cv.size = caps.length)
    (h : Rel Hy (XD X cv caps N0) B St w0 (DpC { target := .fn (.func g) cv, args := #[] }) s ι a w) (hv : ∀ z, x = some z → Ra w (Sd B St s.o ι w) s.o ι v z)
    (hk : ∃ Rc, Cr P Hy g caps s.o x Rc ∧ ∀ o', Rc o' → resK tt ⟨s.n, s.t, o'⟩ fn.results.toList fun as => R as o') :
    LeavesInM Fence.wide nn P fn a.tmps (fun e w' => ∃ v ι' o' rs, e = Ending.returned v ∧ R rs o' ∧ Mem Hy X B St w0 o' ι' w' ∧ RresM w' (Sd B St o' ι' w') o' ι' v rs) a.defers (modeOf x v) w := by
  obtain ⟨Rc, hc, hk⟩ := hk
  obtain ⟨N, L, n1, n2, ⟨bs, n3, hbs⟩, n4, n5⟩ := h.xd
  obtain ⟨M, hM, e⟩ := h.dv
  have hb := DpC.bs (fun D => by simp) (n3.symm.trans e) hM hbs
  subst hb
  rw [n3]
  have hu : modeOf x v ≠ .run := by cases x <;> simp [modeOf]
  have n2' : XC (XT (XD X cv caps N0) fun w D o ι => (∀ z, x = some z → Ra w D o ι v z) ∧ N ≤ w.heap.size) N := fun w1 D o ι w' D' o' ι' mT mA hz hk hx => ⟨n2 _ _ _ _ _ _ _ _ mT mA hz hk hx.1, fun z e => mA _ _ (hx.2.1 z e), Nat.le_trans hx.2.2 hz⟩
  have h0 : Rel Hy (XT (XD X cv caps N0) fun w D o ι => (∀ z, x = some z → Ra w D o ι v z) ∧ N ≤ w.heap.size) B St w0 (fun _ => True) s ι a w := ⟨h.below, h.hB, h.ob, h.inj, h.tm, trivial, h.sz, h.stB, h.hy, ⟨h.x, hv, n1⟩, N, L, n1, n2', ⟨_, n3, hbs⟩, n4, n5⟩
  refine leaves_all hu hbs n2' L w a h0 n3 n1 n4 n5 fun w' a' ea ed hR => ?_
  obtain ⟨fn0, f1, f2, f3⟩ := hc.fn
  have hM2 : Mem Hy (XT (XD X cv caps N0) fun w D o ι => ∀ (t : Nat) v, a.tmps[t]? = some v → Ra w D o ι v (s.t t)) B St w0 s.o ι w' :=
    ⟨hR.below, hR.hB, hR.ob, hR.inj, hR.stB, hR.hy, ⟨hR.x.1, fun t v e => hR.tm t v (by rw [ea]; exact e)⟩, N, hR.x.2.2, fun w1 D o ι w' D' o' ι' mT mA hz hk hx => ⟨n2 _ _ _ _ _ _ _ _ mT mA hz hk hx.1, fun t v e => mA _ _ (hx.2 t v e)⟩⟩
  have hcall := hc.go _ B St w0 ι w' cv v hM2 hcv (fun j v x h1 h2 => hR.x.1.2.1 j v x h1 h2) (fun z e => hR.x.2.1 z e)
  refine ⟨hu, .inr ⟨fun e => (by cases e), .func g, cv, g, cv, rfl, by simp [invoke, callFunc, f1, f2, f3], fun _ _ => trivial, ?_⟩⟩
  have hcall2 : CallsDIn Fence.wide (nn - 1) P g cv (modeOf x v) w' fun e u' w' => (∃ r, e = .returned r) ∧ settle u' = .returning ∧ ∃ ι' o', Rc o' ∧ Mem Hy (XT (XD X cv caps N0) fun w D o ι => ∀ (t : Nat) v, a.tmps[t]? = some v → Ra w D o ι v (s.t t)) B St w0 o' ι' w' := ⟨trivial, fun c cs hu _ => hcall.2 c cs hu (by simp [Fence.room, Fence.wide])⟩
  refine hcall2.mono ?_
  rintro e u' w2 ⟨⟨r, rfl⟩, hset, ι', o', hRc, hM'⟩
  have hR3 : Rel Hy X B St w0 (fun _ => True) ⟨s.n, s.t, o'⟩ ι' { tmps := a.tmps, defers := [] } w2 := ⟨hM'.below, hM'.hB, hM'.ob, hM'.inj, hM'.x.2, trivial, h.sz, hM'.stB, hM'.hy, hM'.x.1.1, N0, [], hM'.x.1.2.2, nX, DefIs.nil, List.nodup_nil, fun D hD => (by cases hD)⟩
  obtain ⟨vs, as, h1, h2, h3, hk⟩ := resK_ok hT hR3 _ (hk o' hRc)
  show LeavesInM Fence.wide nn P fn a.tmps _ [] (settle u') w2
  rw [hset]
  exact ⟨_, results_run fn vs h1, _, ι', o', as, rfl, hk, hR3.mem, rresM_of as vs h2.symm h3⟩
/-- what is asked of what stands ahead of the deferred closure -/
def preD (N : S → Prop) : Exit → S → Prop
  | .normal, s => N s
  | _, _ => False
set_option maxHeartbeats 1000000 in
/-- a function with a deferred closure that recovers -/
theorem cmD_of (hT : Tys.ok P tt) (hM : P.follows .mixedOrders = true) {f : FuncId} {fn : Func} {id : Nat} {ops : Array Oper} {pre y : Code} {args : List A} {o : Nat → O} {R : List A → (Nat → O) → Prop} {t : Nat} {g : FuncId} {cap : Array Operand} {tys : Array TypeId} {ty1 ty2 : TypeId} {p1 p2 : String} {af1 af2 : Array Edge}
    (hf : P.funcs[f]? = some fn) (hb : fn.body = some (.seq pre (.seq (.region id ops false) y))) (hops : ops.toList = [⟨some t, .makeFunc (.func g) #[] cap, ty1, p1, af1, none⟩, ⟨none, .defer ⟨.value (.tmp t), #[], tys⟩, ty2, p2, af2, none⟩]) (hnm : fn.name ≠ "runtime.NumGoroutine")
    (hn : args.length ≤ fn.ntmps) (ht : t < fn.ntmps) (h : cwp P Hy tt cls E0 false pre (preD fun s => s.n = fn.ntmps ∧ cwp P Hy tt cls E0 true y (retD P Hy tt fn.results.toList g (cap.toList.map s.ev) R) (s.put (some t) (.fn g [] (cap.toList.map s.ev)))) (s0 fn.ntmps args o)) : Cm P Hy f args o R := by
  refine ⟨⟨fn, hf, hnm, by rw [hb]; simp⟩, fun X B St w0 ι w cargs hMm hsz harg => ?_⟩
  refine callsIn_wide.1 (callsIn_of_wp_marks (F := Fence.wide) (n := 0) hf hb trivial ?_)
  obtain ⟨N0, hN0, nX⟩ := hMm.xc
  have nX1 : XC (XT X fun w _ _ _ => N0 ≤ w.heap.size) N0 := fun w1 D o ι w' D' o' ι' mT mA hz hk hx => ⟨nX _ _ _ _ _ _ _ _ mT mA hz hk hx.1, Nat.le_trans hx.2 hz⟩
  have hM1 : Mem Hy (XT X fun w _ _ _ => N0 ≤ w.heap.size) B St w0 o ι w := ⟨hMm.below, hMm.hB, hMm.ob, hMm.inj, hMm.stB, hMm.hy, ⟨hMm.x, hN0⟩, N0, hN0, nX1⟩
  have h0 : Rel Hy (XT X fun w _ _ _ => N0 ≤ w.heap.size) B St w0 (fun d => d = []) (s0 fn.ntmps args o) ι { tmps := cargs ++ Array.replicate (fn.ntmps - cargs.size) undef, defers := [] } w := rel0 hM1 hn hsz harg rfl
  refine wpIn_seq (cwp_ok (E := E0) (ro := none) (nn := 0) (top := false) hT hM pre (fun e => by cases e) (.inl fun _ _ _ e => e) h0 (fun e s ι a w hR hk => ?_) h)
  cases e <;> first | exact hk.elim | skip
  obtain ⟨hsn, hk⟩ := hk
  have htn : t < a.tmps.size := by rw [hR.sz, hsn]; exact ht
  have hdd : a.defers = [] := hR.dv
  -- the closure
  have hcap := args_ev hR cap
  have hfn : Ra w (Sd B St s.o ι w) s.o ι (.func (.func g) #[] (cap.map a.eval)) (.fn g [] (cap.toList.map s.ev)) := by
    refine .fn g #[] (cap.map a.eval) [] (cap.toList.map s.ev) (fun _ => undef) (fun j => (cap.map a.eval).getD j undef) rfl (fun j hj => absurd hj (Nat.not_lt_zero j)) (fun j x hx => by simp at hx) hcap.1 (fun j hj => ?_) (fun j x hx => ?_)
    · have hj2 : j < (cap.map a.eval).size := by rw [hcap.1]; exact hj
      rw [Array.getElem?_eq_getElem hj2, Array.getD_eq_getD_getElem?, Array.getElem?_eq_getElem hj2]
      rfl
    · have hj2 : j < (cap.map a.eval).size := by rw [hcap.1]; exact (List.getElem?_eq_some_iff.1 hx).1
      have := hcap.2 j _ x (Array.getElem?_eq_getElem hj2) hx
      rwa [Array.getD_eq_getD_getElem?, Array.getElem?_eq_getElem hj2]
  have h1 := hR.pure (some t) (.fn g [] (cap.toList.map s.ev)) (.func (.func g) #[] (cap.map a.eval)) (fun _ => hfn)
  have hsz2 : ops.size = 2 := by rw [← Array.length_toList, hops]; rfl
  have hg0 : ops[0]? = some ⟨some t, .makeFunc (.func g) #[] cap, ty1, p1, af1, none⟩ := by rw [← Array.getElem?_toList, hops]; rfl
  have hg1 : ops[1]? = some ⟨none, .defer ⟨.value (.tmp t), #[], tys⟩, ty2, p2, af2, none⟩ := by rw [← Array.getElem?_toList, hops]; rfl
  refine wpIn_seq (wpIn_region ?_)
  rw [hsz2]
  show wpOpsIn Fence.wide 0 P ops _ [0, 1] a w
  rw [wpOpsIn_cons]
  unfold wpOpIn
  simp only [hg0]
  rw [if_pos (by simp [Region.wanted])]
  refine ⟨fun _ _ => trivial, ?_⟩
  have run : (Oper.semAt Fence.wide.round a.eval ⟨some t, .makeFunc (.func g) #[] cap, ty1, p1, af1, none⟩).run P w = .ok (.value (.func (.func g) #[] (cap.map a.eval))) w := by
    rw [Oper.semAt_eq _ _ _ (fun c e => by cases e)]
    simp [execOp, Instr.makeFunc, go_sem]
  rw [run]
  show wpOpsIn Fence.wide 0 P ops _ [1] (a.put (some t) (.func (.func g) #[] (cap.map a.eval))) w
  rw [wpOpsIn_cons]
  unfold wpOpIn
  simp only [hg1]
  rw [if_pos (by simp [Region.wanted])]
  refine ⟨fun _ _ => trivial, ?_⟩
  have hev : (a.put (some t) (.func (.func g) #[] (cap.map a.eval))).eval (.tmp t) = .func (.func g) #[] (cap.map a.eval) := by
    simp [Act.eval, Act.put, htn]
  have run2 : (Oper.semAt Fence.wide.round (a.put (some t) (.func (.func g) #[] (cap.map a.eval))).eval ⟨none, .defer ⟨.value (.tmp t), #[], tys⟩, ty2, p2, af2, none⟩).run P w = .ok (.defer { target := .fn (.func g) (cap.map a.eval), args := #[] }) w := by
    rw [show Fence.wide.round = none from rfl, Oper.semAt_none]
    simp only [execOp, resolve, hev]
    simp [Deferred.ofValue, go_sem]
  rw [run2]
  have hcapR : ∀ (j : Nat) v x, (cap.map a.eval)[j]? = some v → (cap.toList.map s.ev)[j]? = some x → Ra w (Sd B St s.o ι w) s.o ι v x := hcap.2
  obtain ⟨N, L, n1, n2, n3, n4, n5⟩ := h1.xd
  have nXD : XC (XD X (cap.map a.eval) (cap.toList.map s.ev) N0) N0 := fun w1 D o ι w' D' o' ι' mT mA hz hk hx => ⟨nX _ _ _ _ _ _ _ _ mT mA hz hk hx.1, fun j v x e1 e2 => mA _ _ (hx.2.1 j v x e1 e2), Nat.le_trans hx.2.2 hz⟩
  have h2 : Rel Hy (XD X (cap.map a.eval) (cap.toList.map s.ev) N0) B St w0 (DpC { target := .fn (.func g) (cap.map a.eval), args := #[] }) (s.put (some t) (.fn g [] (cap.toList.map s.ev))) ι
      { (a.put (some t) (.func (.func g) #[] (cap.map a.eval))) with defers := { target := .fn (.func g) (cap.map a.eval), args := #[] } :: (a.put (some t) (.func (.func g) #[] (cap.map a.eval))).defers } w :=
    ⟨h1.below, h1.hB, h1.ob, h1.inj, h1.tm, ⟨[], AllM.nil, by rw [show (a.put (some t) (.func (.func g) #[] (cap.map a.eval))).defers = a.defers from rfl, hdd]; rfl⟩, h1.sz, h1.stB, h1.hy, ⟨hR.x.1, hcapR, hR.x.2⟩, N0, [], hR.x.2, nXD,
      ⟨[{ target := .fn (.func g) (cap.map a.eval), args := #[] }], by rw [show (a.put (some t) (.func (.func g) #[] (cap.map a.eval))).defers = a.defers from rfl, hdd]; rfl, fun d hd D => by rw [List.mem_singleton.1 hd]; simp⟩, List.nodup_nil, fun D hD => (by cases hD)⟩
  refine cwp_ok (E := E0) (ro := none) (nn := 0) (top := true) hT hM y (fun _ => ⟨rfl, fun D d ⟨M, hM, e⟩ => ⟨mark D :: M, hM.cons, by rw [e]; rfl⟩⟩) (.inl fun _ _ _ e => e) h2 (fun e s2 ι2 a2 w2 hR2 hk2 => ?_) hk
  cases e with
  | normal => exact leavesD hT (x := none) (v := undef) nX hcap.1 hR2 (fun z e => by cases e) hk2
  | ret => exact leavesD hT (x := none) (v := undef) nX hcap.1 hR2 (fun z e => by cases e) hk2
  | panic ch => exact fun v hv => leavesD hT (x := some (s2.t s2.n)) (v := v) nX hcap.1 hR2 (fun z e => by cases e; exact hv) hk2
  | _ => exact hk2.elim
end
end Go.Proofs.YtfflfmpkjcomgaaDoor
