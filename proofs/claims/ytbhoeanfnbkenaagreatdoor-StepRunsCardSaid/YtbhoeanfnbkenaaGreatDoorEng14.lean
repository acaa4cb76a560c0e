import Derived.Test.YtbhoeanfnbkenaaGreatDoorEng12
import Derived.Orders
import Derived.RangeFuncRecord
import Derived.WalkSpells
import Derived.Lib.LazyBuf
import Derived.RangeFuncSeq
namespace Go.Proofs.YtbhoeanfnbkenaaGreatDoor
open Go.RowKit
section
variable {P : Program} {tt : Tys} {Hy : World → Prop} {X : World → (Nat → Prop) → (Nat → O) → (Nat → Value) → Prop} {cls : Nat → Nat} {B : Nat} {St : Nat → Prop} {Dp : List Deferred → Prop} {w0 w : World} {s : S} {ι : Nat → Value} {a : Act}
structure Mem (Hy : World → Prop) (X : World → (Nat → Prop) → (Nat → O) → (Nat → Value) → Prop) (B : Nat) (St : Nat → Prop) (w0 : World) (o : Nat → O) (ι : Nat → Value) (w : World) : Prop where
 below : Below B w0 w
 hB : B ≤ w.heap.size
 ob : ∀ id, Ob B w (Sd B St o ι w) o ι (ι id) (o id).k
 inj : ∀ i j b, mb o ι i = some b → mb o ι j = some b → i = j
 stB : ∀ g, St g → g < B
 hy : ∀ w', Below B w0 w' → Hy w'
 x : X w (Sd B St o ι w) o ι
 xc : ∃ N, N ≤ w.heap.size ∧ XC X N
theorem Rel.mem (h : Rel Hy X B St w0 Dp s ι a w) : Mem Hy X B St w0 s.o ι w := ⟨h.below, h.hB, h.ob, h.inj, h.stB, h.hy, h.x, by obtain ⟨N, L, n1, n2, _⟩ := h.xd; exact ⟨N, n1, n2⟩⟩
section
variable {o o' o2 : Nat → O}
def Stl (o o' : Nat → O) : Prop := ∀ (Hy : World → Prop) (X : World → (Nat → Prop) → (Nat → O) → (Nat → Value) → Prop) (B : Nat) (St : Nat → Prop) (w0 : World) (ι : Nat → Value) (w : World), Mem Hy X B St w0 o ι w → Mem Hy X B St w0 o' ι w ∧ ∀ (v : Value) (x : A), Ra w (Sd B St o ι w) o ι v x → Ra w (Sd B St o' ι w) o' ι v x
theorem Stl.refl : Stl o o := fun _ _ _ _ _ _ _ h => ⟨h, fun _ _ h => h⟩
theorem Stl.trans (h : Stl o o') (k : Stl o' o2) : Stl o o2 := fun _ _ _ _ _ _ _ hm => by
 obtain ⟨h1, h2⟩ := h _ _ _ _ _ _ _ hm
 obtain ⟨k1, k2⟩ := k _ _ _ _ _ _ _ h1
 exact ⟨k1, fun v x hx => k2 v x (h2 v x hx)⟩
end
theorem Rel.stl (h : Rel Hy X B St w0 Dp s ι a w) {o' : Nat → O} (hs : Stl s.o o') : Rel Hy X B St w0 Dp ⟨s.n, s.t, o'⟩ ι a w := by
 obtain ⟨N, L, n1, n2, _⟩ := h.xd
 have hM : Mem Hy (fun w D o ι => X w D o ι ∧ ∀ (t : Nat) v, a.tmps[t]? = some v → Ra w D o ι v (s.t t)) B St w0 s.o ι w :=
  ⟨h.below, h.hB, h.ob, h.inj, h.stB, h.hy, ⟨h.x, h.tm⟩, N, n1, fun w D o ι w' D' o' ι' mT mA hz hk hx => ⟨n2 _ _ _ _ _ _ _ _ mT mA hz hk hx.1, fun t v e => mA _ _ (hx.2 t v e)⟩⟩
 obtain ⟨hM', _⟩ := hs _ _ _ _ _ _ _ hM
 exact ⟨hM'.below, hM'.hB, hM'.ob, hM'.inj, hM'.x.2, h.dv, h.sz, hM'.stB, hM'.hy, hM'.x.1, h.xd⟩
def StlS (s s' : S) : Prop := ∀ (Hy : World → Prop) (X : World → (Nat → Prop) → (Nat → O) → (Nat → Value) → Prop) (B : Nat) (St : Nat → Prop) (w0 : World) (Dp : List Deferred → Prop) (ι : Nat → Value) (a : Act) (w : World), Rel Hy X B St w0 Dp s ι a w → Rel Hy X B St w0 Dp s' ι a w
theorem StlS.refl (s : S) : StlS s s := fun _ _ _ _ _ _ _ _ _ h => h
theorem StlS.stl {s : S} {o' : Nat → O} (hs : Stl s.o o') : StlS s ⟨s.n, s.t, o'⟩ := fun _ _ _ _ _ _ _ _ _ h => h.stl hs
theorem StlS.trans {s s1 s2 : S} (h : StlS s s1) (k : StlS s1 s2) : StlS s s2 := fun _ _ _ _ _ _ _ _ _ hr => k _ _ _ _ _ _ _ _ _ (h _ _ _ _ _ _ _ _ _ hr)
def RresM (w : World) (D : Nat → Prop) (o : Nat → O) (ι : Nat → Value) (v : Value) : List A → Prop
 | [x] => Ra w D o ι v x
 | l => ∃ (cs : Array Value) (c : Nat → Value), v = .tuple cs ∧ cs.size = l.length ∧ (∀ j, j < l.length → cs[j]? = some (c j)) ∧ ∀ (j : Nat) x, l[j]? = some x → Ra w D o ι (c j) x
def zbe : List A → A
 | [x] => x
 | l => .tup l
structure Cm (P : Program) (Hy : World → Prop) (f : FuncId) (args : List A) (o : Nat → O) (R : List A → (Nat → O) → Prop) : Prop where
 fn : ∃ fn, P.funcs[f]? = some fn ∧ fn.name ≠ "runtime.NumGoroutine" ∧ fn.body ≠ none
 go : ∀ X B St w0 ι w (cargs : Array Value), Mem Hy X B St w0 o ι w → cargs.size = args.length → (∀ (j : Nat) v x, cargs[j]? = some v → args[j]? = some x → Ra w (Sd B St o ι w) o ι v x) →
  Calls P f cargs w fun e w' => ∃ v ι' o' rs, e = .returned v ∧ R rs o' ∧ Mem Hy X B St w0 o' ι' w' ∧ RresM w' (Sd B St o' ι' w') o' ι' v rs
theorem Cm.mono {f : FuncId} {args : List A} {o : Nat → O} {R R' : List A → (Nat → O) → Prop} (h : Cm P Hy f args o R) (hr : ∀ rs o', R rs o' → R' rs o') : Cm P Hy f args o R' :=
 ⟨h.fn, fun X B St w0 ι w cargs hM hs ha => (h.go X B St w0 ι w cargs hM hs ha).mono (fun _ _ ⟨v, ι', o', rs, h1, h2, h3⟩ => ⟨v, ι', o', rs, h1, hr _ _ h2, h3⟩)⟩
def gOk (ops : List Oper) (o : Oper) (s : S) : Prop := match o.guard with
 | none => True
 | some (g, want) => match (ops[g]?).bind (·.dst) with
  | some t => t < s.n ∧ s.t t = .t (.b want)
  | none => False
def Mth (P : Program) (Hy : World → Prop) (ty : TypeId) (x : A) (o : Nat → O) (name : String) (f : FuncId) (y : A) : Prop :=
 ∀ X B St w0 ι w v, Mem Hy X B St w0 o ι w → Ra w (Sd B St o ι w) o ι v x → ∃ u, (method (P.types.size + Made.depth) ty v name).run P w = .ok (f, u) w ∧ Ra w (Sd B St o ι w) o ι u y
def opM (P : Program) (Hy : World → Prop) (ops : List Oper) (o : Oper) (s : S) (K : S → Prop) : Prop := gOk ops o s ∧ match o.op with
 | .call c => match c.callee with
  | .value (.func f) => ∃ R, Cm P Hy f (c.args.toList.map s.ev) s.o R ∧ ∀ rs o', R rs o' → K ((⟨s.n, s.t, o'⟩ : S).put o.dst (zbe rs))
  | .value (.tmp t) => match s.ev (.tmp t) with
   | .fn f l m => ∃ R, Cm P Hy f (l ++ c.args.toList.map s.ev ++ m) s.o R ∧ ∀ rs o', R rs o' → K ((⟨s.n, s.t, o'⟩ : S).put o.dst (zbe rs))
   | _ => False
  | .invoke r name => match s.ev r with
   | .ifc ty x => ∃ f y R, Mth P Hy ty x s.o name f y ∧ Cm P Hy f (y :: c.args.toList.map s.ev) s.o R ∧ ∀ rs o', R rs o' → K ((⟨s.n, s.t, o'⟩ : S).put o.dst (zbe rs))
   | _ => False
  | _ => False
 | .makeInterface ty x => match s.ev x with
  | .ptr id g off => (∃ e, P.underlying ty = some (.pointer e)) ∧ K (s.put o.dst (.ifc ty (.ptr id g off)))
  | _ => False
 | _ => False
theorem zhX {D : Nat → Prop} {o : Nat → O} {v : Value} {r : List A} (h : RresM w D o ι v r) : Ra w D o ι v (zbe r) := by
 unfold RresM at h
 unfold zbe
 split at h
 ·exact h
 ·obtain ⟨cs, c, rfl, h1, h2, h3⟩ := h
  exact .tup cs _ c h1 h2 h3
theorem zev (h : Rel Hy X B St w0 Dp s ι a w) {Q : Exit → Act → World → Prop} {dst : Option Nat} {f : FuncId} {args : List A} {cargs : Array Value} {R : List A → (Nat → O) → Prop} {K : S → Prop} {K' : Act → World → Prop} (hs : Sim Hy X B St w0 Dp K K')
  (hc : Cm P Hy f args s.o R) (hz : cargs.size = args.length) (harg : ∀ (j : Nat) v x, cargs[j]? = some v → args[j]? = some x → Ra w (Sd B St s.o ι w) s.o ι v x) (hk : ∀ rs o', R rs o' → K ((⟨s.n, s.t, o'⟩ : S).put dst (zbe rs))) :
  Calls P f cargs w fun | .returned v, w'' => K' (a.put dst v) w'' | .panicked chain, w'' => Q (.panic chain) a w'' | .outgrown, _ => LetsOut Q := by
 obtain ⟨N, L, n1, n2, n3, n4, n5⟩ := h.xd
 have hM : Mem Hy (fun w D o ι => X w D o ι ∧ (∀ (t : Nat) v, a.tmps[t]? = some v → Ra w D o ι v (s.t t)) ∧ N ≤ w.heap.size ∧ ∀ D ∈ L, w.heap[D]? = some (.deferred (some []))) B St w0 s.o ι w :=
  ⟨h.below, h.hB, h.ob, h.inj, h.stB, h.hy, ⟨h.x, h.tm, n1, fun D hD => (n5 D hD).2.2⟩, w.heap.size, Nat.le_refl _, fun w1 D o ι w' D' o' ι' mT mA hz hk hx => ⟨n2 _ _ _ _ _ _ _ _ mT mA hz (fun b ob hb => hk b ob (Nat.lt_of_lt_of_le hb n1)) hx.1, fun t v e => mA _ _ (hx.2.1 t v e), Nat.le_trans hx.2.2.1 hz,
   fun D hD => hk D _ (Array.getElem?_eq_some_iff.1 (n5 D hD).2.2).1 (zdr _) (hx.2.2.2 D hD)⟩⟩
 refine (hc.go _ B St w0 ι w cargs hM hz harg).mono ?_
 rintro e w' ⟨v, ι', o', rs, rfl, hR, hM', hv⟩
 have h' : Rel Hy X B St w0 Dp ⟨s.n, s.t, o'⟩ ι' a w' := ⟨hM'.below, hM'.hB, hM'.ob, hM'.inj, hM'.x.2.1, h.dv, h.sz, hM'.stB, hM'.hy, hM'.x.1, N, L, hM'.x.2.2.1, n2, n3, n4, fun D hD => ⟨(n5 D hD).1, (n5 D hD).2.1, hM'.x.2.2.2 D hD⟩⟩
 exact hs _ ι' _ _ (h'.pure dst (zbe rs) v (fun _ => zhX hv)) (hk rs o' hR)
theorem zew (h : Rel Hy X B St w0 Dp s ι a w) (args : Array Operand) : (args.map a.eval).size = (args.toList.map s.ev).length ∧ ∀ (j : Nat) v x, (args.map a.eval)[j]? = some v → (args.toList.map s.ev)[j]? = some x → Ra w (Sd B St s.o ι w) s.o ι v x := by
 refine ⟨by simp, fun j v x hv hx => ?_⟩
 rw [List.getElem?_map] at hx
 obtain ⟨y, hy, rfl⟩ := Option.map_eq_some_iff.1 hx
 have hy2 : args[j]? = some y := by simpa using hy
 rw [Array.getElem?_map, hy2] at hv
 cases hv
 exact h.ev y
theorem zhY {ro : Option Nat} {n : Nat} (h : Rel Hy X B St w0 Dp s ι a w) {Q : Exit → Act → World → Prop} {ops : Array Oper} {i : Nat} {o : Oper} (ho : ops[i]? = some o) {K : S → Prop} {K' : Act → World → Prop} (hs : Sim Hy X B St w0 Dp K K') (hk : opM P Hy ops.toList o s K) : wpOpIn (FW ro) n P ops Q i K' a w := by
 obtain ⟨hg, hk⟩ := hk
 unfold wpOpIn
 simp only [ho]
 have hw : Region.wanted o (yielded ops a.tmps) = true := by
  unfold gOk at hg
  split at hg
  ·rename_i e
   simp [Region.wanted, e]
  ·rename_i g want e
   split at hg
   ·rename_i t ht
    obtain ⟨htn, hg⟩ := hg
    have ht2 : (ops[g]?).bind (·.dst) = some t := by simpa using ht
    have hl : t < a.tmps.size := by rw [h.sz]; exact htn
    have htm := h.tm t _ (Array.getElem?_eq_getElem hl)
    rw [hg] at htm
    have hq := htm.bool
    have hy : yielded ops a.tmps g = some want := by
     unfold yielded
     simp only [ht2, Option.bind_some, Array.getElem?_eq_getElem hl, hq]
    simp [Region.wanted, e, hy]
   ·exact hg.elim
 rw [if_pos hw]
 refine zcI (fun c e => by rw [e] at hk; exact hk.elim) ?_
 unfold Oper.wp
 obtain ⟨dst, op, type, pos, after, guard⟩ := o
 cases op <;> first | exact hk.elim | skip
 case makeInterface ty x =>
  simp only at hk
  split at hk
  ·rename_i id g off e
   obtain ⟨⟨e1, hu⟩, hk⟩ := hk
   have run : (execOp a.eval ⟨dst, .makeInterface ty x, type, pos, after, guard⟩).run P w = .ok (.value (.iface ty (a.eval x))) w := by
    simp [execOp, Instr.makeInterface, run_underlying hu, Result.andThen]
   rw [run]
   have hx := h.ev x
   rw [e] at hx
   exact hs _ ι _ _ (h.pure dst _ _ (fun _ => .ifc ty _ _ hx)) hk
  ·exact hk.elim
 rename_i c
 obtain ⟨callee, args, tys⟩ := c
 obtain ⟨az, ae⟩ := zew h args
 cases callee with
 | builtin b => exact hk.elim
 | invoke r m =>
  simp only at hk
  split at hk
  ·rename_i ty x e
   obtain ⟨f, y, R, hm, hc, hk⟩ := hk
   obtain ⟨fn, f1, f2, f3⟩ := hc.fn
   have hx := h.ev r
   rw [e] at hx
   obtain ⟨v, hv, hx⟩ : ∃ v, a.eval r = .iface ty v ∧ Ra w (Sd B St s.o ι w) s.o ι v x := by
    generalize a.eval r = v at hx
    cases hx with
    | ifc _ v _ h => exact ⟨v, rfl, h⟩
   obtain ⟨u, hu, hy⟩ := hm _ _ _ _ _ _ v h.mem hx
   have he : ((#[Value.iface ty v] ++ args.map a.eval).extract 1 (#[Value.iface ty v] ++ args.map a.eval).size) = args.map a.eval := by
    apply Array.ext'
    simp
    exact List.take_of_length_le (by simp)
   have hp : ∀ w : World, program.run P w = .ok P w := fun w => rfl
   have run : (execOp a.eval ⟨dst, .call ⟨.invoke r m, args, tys⟩, type, pos, after, guard⟩).run P w = .ok (.enter f (#[u] ++ args.map a.eval)) w := by
    simp only [execOp, resolve, hv, Sem.run_bind, Sem.run_pure, Result.andThen_ok, invoke]
    have h0 : (#[Value.iface ty v] ++ args.map a.eval)[0]? = some (Value.iface ty v) := by
     rw [Array.getElem?_append_left (Nat.lt_succ_self 0)]
     rfl
    simp only [h0, he, callMethod, Sem.run_bind, hp, hu, Result.andThen_ok]
    simp [callFunc, f1, f2, f3]
   rw [run]
   refine zev h hs hc (by simp; omega) (fun j v x hv hx => ?_) hk
   cases j with
   | zero =>
    have e1 : v = u := by
     rw [Array.getElem?_append_left (Nat.lt_succ_self 0)] at hv
     exact (Option.some.inj hv).symm
    have e2 : x = y := by simpa using hx.symm
    rw [e1, e2]
    exact hy
   | succ j =>
    refine ae j v x ?_ (by simpa using hx)
    rw [Array.getElem?_append_right (by simp)] at hv
    simpa using hv
  ·exact hk.elim
 | value f =>
  cases f with
  | const v => exact hk.elim
  | global g => exact hk.elim
  | func f =>
   obtain ⟨R, hc, hk⟩ := hk
   obtain ⟨fn, f1, f2, f3⟩ := hc.fn
   have run : (execOp a.eval ⟨dst, .call ⟨.value (.func f), args, tys⟩, type, pos, after, guard⟩).run P w = .ok (.enter f (args.map a.eval)) w := by
    simp [execOp, resolve, Deferred.ofValue, Act.eval, invoke, callFunc, f1, f2, f3]
   rw [run]
   exact zev h hs hc az ae hk
  | tmp t =>
   simp only at hk
   split at hk
   ·rename_i f l m e
    obtain ⟨R, hc, hk⟩ := hk
    obtain ⟨fn, f1, f2, f3⟩ := hc.fn
    have hx := h.ev (.tmp t)
    rw [e] at hx
    obtain ⟨cs, ds, hv, ha1, ha2⟩ := hx.fn_get
    have ha := (Alike.app (show Alike w (Sd B St s.o ι w) s.o ι cs l from ha1) (h.alike args)).app (show Alike w (Sd B St s.o ι w) s.o ι ds m from ha2)
    have run : (execOp a.eval ⟨dst, .call ⟨.value (.tmp t), args, tys⟩, type, pos, after, guard⟩).run P w = .ok (.enter f (cs ++ args.map a.eval ++ ds)) w := by
     simp [execOp, resolve, Deferred.ofValue, hv, invoke, callFunc, f1, f2, f3]
    rw [run]
    refine zev h hs hc ha.1 (fun j v x hv hx => ?_) hk
    obtain ⟨c, hc1, hr⟩ := ha.2 j x hx
    rw [hv] at hc1
    cases hc1
    exact hr
   ·exact hk.elim
def zae : List (Nat × O) → Nat → O → O
 | [], _, d => d
 | p :: l, j, d => if j = p.1 then p.2 else zae l j d
def Cd (P : Program) (Hy : World → Prop) (f : FuncId) (args : List A) (o : Nat → O) (R : List Nat) (up : List (Nat × O)) (y : A) : Prop := ∀ o2, (∀ id ∈ R, o2 id = o id) → Cm P Hy f args o2 fun rs o' => zbe rs = y ∧ o' = fun j => zae up j (o2 j)
theorem Cd.agr {f : FuncId} {args : List A} {o o2 : Nat → O} {R : List Nat} {up : List (Nat × O)} {y : A} (h : Cd P Hy f args o R up y) (he : ∀ id ∈ R, o2 id = o id) : Cd P Hy f args o2 R up y := fun o3 h3 => h o3 fun id hid => (h3 id hid).trans (he id hid)
def zdg (s : S) (up : List (Nat × O)) (d : Option Nat) (y : A) : S := upd s up.reverse d y
def opD (P : Program) (Hy : World → Prop) (ops : List Oper) (o : Oper) (s : S) (R W : List Nat) (K : S → Prop) : Prop := gOk ops o s ∧ match o.op with
 | .call c => match c.callee with
  | .value (.func f) => ∃ up y, (up.all fun p => W.contains p.1) = true ∧ Cd P Hy f (c.args.toList.map s.ev) s.o (R ++ W) up y ∧ K (zdg s up o.dst y)
  | .value (.tmp t) => match s.ev (.tmp t) with
   | .fn f l m => ∃ up y, (up.all fun p => W.contains p.1) = true ∧ Cd P Hy f (l ++ c.args.toList.map s.ev ++ m) s.o (R ++ W) up y ∧ K (zdg s up o.dst y)
   | _ => False
  | _ => False
 | _ => False
theorem zex : ∀ (up : List (Nat × O)) (s : S), (⟨s.n, s.t, fun j => zae up j (s.o j)⟩ : S) = up.reverse.foldl (fun s p => s.ob p.1 p.2) s
 | [], s => rfl
 | p :: up, s => by
  rw [List.reverse_cons, List.foldl_append, ← zex up s]
  show _ = (⟨s.n, s.t, fun j => zae up j (s.o j)⟩ : S).ob p.1 p.2
  unfold S.ob
  congr 1
theorem zhZ {ops : List Oper} {o : Oper} {R W : List Nat} {K : S → Prop} (h : opD P Hy ops o s R W K) : opM P Hy ops o s K := by
 obtain ⟨hg, hk⟩ := h
 refine ⟨hg, ?_⟩
 have go : ∀ {f : FuncId} {L : List A} {up : List (Nat × O)} {y : A}, Cd P Hy f L s.o (R ++ W) up y → K (upd s up.reverse o.dst y) → ∃ R, Cm P Hy f L s.o R ∧ ∀ rs o', R rs o' → K ((⟨s.n, s.t, o'⟩ : S).put o.dst (zbe rs)) := fun {f L up y} hc hk => by
  refine ⟨_, hc s.o fun _ _ => rfl, ?_⟩
  rintro rs o' ⟨rfl, rfl⟩
  rw [zex]
  exact hk
 split at hk
 ·rename_i c e1
  rw [e1]
  split at hk
  ·rename_i f e2
   simp only [e2]
   obtain ⟨up, y, _, hc, hk⟩ := hk
   exact go hc hk
  ·rename_i t e2
   simp only [e2]
   split at hk
   ·rename_i f l m e3
    try rw [e3]
    obtain ⟨up, y, _, hc, hk⟩ := hk
    exact go hc hk
   ·exact hk.elim
  ·exact hk.elim
 ·exact hk.elim
end
end Go.Proofs.YtbhoeanfnbkenaaGreatDoor
namespace Go.Proofs.YtbhoeanfnbkenaaGreatDoor
open Go.RowKit
section
variable {P : Program} {tt : Tys} {Hy : World → Prop} {X : World → (Nat → Prop) → (Nat → O) → (Nat → Value) → Prop} {cls : Nat → Nat} {B : Nat} {St : Nat → Prop} {Dp : List Deferred → Prop} {w0 w : World} {s : S} {ι : Nat → Value} {a : Act}
theorem StlS.frz {s : S} {j : Nat} {t0 : T} {up0 : Ups} (hj : j < s.n) (hf : frz s.o (s.t j) fun t up => t = t0 ∧ up = up0) : StlS s ((s.frz up0).put (some j) (.t t0)) := fun Hy X B St w0 Dp ι a w h => by
 have hl : j < a.tmps.size := by rw [h.sz]; exact hj
 obtain ⟨t, up, g1, g2, rfl, rfl⟩ := zfo h (h.tm j _ (Array.getElem?_eq_getElem hl)) hf
 obtain ⟨k1, _, _⟩ := h.frz g1
 have hr := g2.rt h g1
 refine ⟨k1.below, k1.hB, k1.ob, k1.inj, fun i v hv => ?_, k1.dv, k1.sz, k1.stB, k1.hy, k1.x, k1.xd⟩
 show Ra _ _ _ _ _ (if i = j then .t t else (s.frz up).t i)
 split
 ·rename_i e
  subst e
  rw [Array.getElem?_eq_getElem hl] at hv
  cases hv
  exact .t hr
 ·exact k1.tm i v hv
def opF (P : Program) (Hy : World → Prop) (ops : List Oper) (o : Oper) (s : S) (K : S → Prop) : Prop := gOk ops o s ∧ match o.op with
 | .call c => match c.callee with
  | .value (.func f) => zbc s.o (c.args.toList.map s.ev) fun ts up => ∃ R, Cm P Hy f (ts.map A.t) (s.frz up).o R ∧ ∀ rs o', R rs o' → K ((⟨s.n, s.t, o'⟩ : S).put o.dst (zbe rs))
  | _ => False
 | _ => False
theorem zey (h : Rel Hy X B St w0 Dp s ι a w) {ops : Array Oper} {o : Oper} (hg : gOk ops.toList o s) : Region.wanted o (yielded ops a.tmps) = true := by
 unfold gOk at hg
 split at hg
 ·rename_i e
  simp [Region.wanted, e]
 ·rename_i g want e
  split at hg
  ·rename_i t ht
   obtain ⟨htn, hg⟩ := hg
   have ht2 : (ops[g]?).bind (·.dst) = some t := by simpa using ht
   have hl : t < a.tmps.size := by rw [h.sz]; exact htn
   have htm := h.tm t _ (Array.getElem?_eq_getElem hl)
   rw [hg] at htm
   have hq := htm.bool
   have hy : yielded ops a.tmps g = some want := by
    unfold yielded
    simp only [ht2, Option.bind_some, Array.getElem?_eq_getElem hl, hq]
   simp [Region.wanted, e, hy]
  ·exact hg.elim
theorem zlw {ro : Option Nat} {n : Nat} (h : Rel Hy X B St w0 Dp s ι a w) {Q : Exit → Act → World → Prop} {ops : Array Oper} {i : Nat} {o : Oper} (ho : ops[i]? = some o) {K : S → Prop} {K' : Act → World → Prop} (hs : Sim Hy X B St w0 Dp K K') (hk : opF P Hy ops.toList o s K) : wpOpIn (FW ro) n P ops Q i K' a w := by
 obtain ⟨hg, hk⟩ := hk
 unfold wpOpIn
 simp only [ho]
 rw [if_pos (zey h hg)]
 refine zcI (fun c e => by rw [e] at hk; exact hk.elim) ?_
 unfold Oper.wp
 obtain ⟨dst, op, type, pos, after, guard⟩ := o
 cases op <;> first | exact hk.elim | skip
 rename_i c
 obtain ⟨callee, args, tys⟩ := c
 cases callee with
 | builtin b => exact hk.elim
 | invoke r m => exact hk.elim
 | value f =>
  cases f with
  | const v => exact hk.elim
  | global g => exact hk.elim
  | tmp t => exact hk.elim
  | func f =>
   have ha := h.alike args
   obtain ⟨ts, up, g1, g2, g3, R, hc, hk⟩ := zcQ h (args.toList.map s.ev) (fun j => (args.map a.eval).getD j undef) (fun j x hx => by
    obtain ⟨c, hc, hr⟩ := ha.2 j x hx
    rw [show (args.map a.eval).getD j undef = c by rw [Array.getD_eq_getD_getElem?, hc]; rfl]
    exact hr) hk
   obtain ⟨fn, f1, f2, f3⟩ := hc.fn
   obtain ⟨k1, k2, k3⟩ := h.frz g1
   have run : (execOp a.eval ⟨dst, .call ⟨.value (.func f), args, tys⟩, type, pos, after, guard⟩).run P w = .ok (.enter f (args.map a.eval)) w := by
    simp [execOp, resolve, Deferred.ofValue, Act.eval, invoke, callFunc, f1, f2, f3]
   rw [run]
   refine zev k1 hs hc (by rw [List.length_map, g2]; exact ha.1) (fun j v x hv hx => ?_) (fun rs o' hR => ?_)
   ·rw [List.getElem?_map] at hx
    obtain ⟨t, ht, rfl⟩ := Option.map_eq_some_iff.1 hx
    have := (g3 j t ht).rt h g1
    rw [show (args.map a.eval).getD j undef = v by rw [Array.getD_eq_getD_getElem?, hv]; rfl] at this
    exact .t this
   ·rw [(zen s up).1, (zen s up).2]
    exact hk rs o' hR
def zdU (s : S) (x : A) (K : Bool → Prop) : Prop := match x with
 | .nilS => K true
 | .t (.sl l) => K false ∧ (l = [] → K true)
 | .row id g => g = (s.o id).gen ∧ match (s.o id).k with
  | .row _ _ l => K false ∧ (l = [] → K true)
  | .rowA _ _ l => K false ∧ (l = [] → K true)
  | .ro l => K false ∧ (l = [] → K true)
  | _ => False
 | _ => False
def opE (tt : Tys) (o : Oper) (s : S) (K : S → Prop) : Prop := o.guard = none ∧ match o.op with
 | .binOp op ty x y _ => zF (tt ty) fun d => match d.k with
  | .slice _ => s.ev y = .nilS ∧ match op with
   | .eql => zdU s (s.ev x) fun b => K (s.put o.dst (.t (.b b)))
   | .neq => zdU s (s.ev x) fun b => K (s.put o.dst (.t (.b !b)))
   | _ => False
  | _ => False
 | _ => False
theorem zh0 (h : Rel Hy X B St w0 Dp s ι a w) {x : Operand} {K : Bool → Prop} (hk : zdU s (s.ev x) K) : ∃ ad n c, a.eval x = .slice ad n c ∧ K ad.isNone := by
 have hx := h.ev x
 generalize a.eval x = vx at hx ⊢
 have dat : ∀ {v : Value} {l : List (List T)}, Rt w (Sd B St s.o ι w) v (.sl l) → (K false ∧ (l = [] → K true)) → ∃ ad n c, v = .slice ad n c ∧ K ad.isNone := fun {v l} hr hk => by
  cases hr with
  | sl0 ad c _ =>
   refine ⟨ad, 0, c, rfl, ?_⟩
   cases ad
   ·exact hk.2 rfl
   ·exact hk.1
  | sl g o n cap z l c => exact ⟨_, _, _, rfl, hk.1⟩
 have own : ∀ {ty : TypeId} {z n : Nat} {v : Value} {xs : List Value} {q : Prop}, w.ownsRow B ty z v n xs → (n = 0 → q) → (K false ∧ (q → K true)) → ∃ ad n c, v = .slice ad n c ∧ K ad.isNone := fun {ty z n v xs q} hr hq hk => by
  rcases hr.2 with ⟨rfl, hn⟩ | ⟨g, cap, cur, rfl, _⟩
  ·exact ⟨none, 0, 0, rfl, hk.2 (hq hn)⟩
  ·exact ⟨_, _, _, rfl, hk.1⟩
 unfold zdU at hk
 split at hk
 ·rename_i e
  rw [e] at hx
  cases hx
  exact ⟨none, 0, 0, rfl, hk⟩
 ·rename_i l e
  rw [e] at hx
  cases hx with
  | t hr => exact dat hr hk
 ·rename_i id g e
  rw [e] at hx
  obtain ⟨hg, hk⟩ := hk
  rw [hx.row_get hg]
  have hob := h.ob id
  split at hk
  ·rename_i ty z l hkk
   rw [hkk] at hob
   obtain ⟨_, xs, h2, _⟩ := hob
   exact own h2 (fun e => List.eq_nil_of_length_eq_zero e) hk
  ·rename_i ty z l hkk
   rw [hkk] at hob
   obtain ⟨_, xs, h2, _⟩ := hob
   exact own h2 (fun e => List.eq_nil_of_length_eq_zero e) hk
  ·rename_i l hkk
   rw [hkk] at hob
   exact dat hob hk
  ·exact hk.elim
 ·exact hk.elim
theorem zlx {ro : Option Nat} {n : Nat} (hT : Tys.ok P tt) (h : Rel Hy X B St w0 Dp s ι a w) {Q : Exit → Act → World → Prop} {ops : Array Oper} {i : Nat} {o : Oper} (ho : ops[i]? = some o) {K : S → Prop} {K' : Act → World → Prop} (hs : Sim Hy X B St w0 Dp K K') (hk : opE tt o s K) : wpOpIn (FW ro) n P ops Q i K' a w := by
 obtain ⟨hg, hk⟩ := hk
 unfold wpOpIn
 simp only [ho]
 rw [if_pos (by simp [Region.wanted, hg])]
 refine zcI (fun c e => by rw [e] at hk; exact hk.elim) ?_
 unfold Oper.wp
 obtain ⟨dst, op, type, pos, after, guard⟩ := o
 cases op <;> first | exact hk.elim | skip
 rename_i op ty x y yt
 obtain ⟨d, hd, hk⟩ := zE hk
 obtain ⟨du, hu, hok, _⟩ := (hT _ _ hd).desc
 split at hk
 ·rename_i e he
  rw [he] at hok
  simp only [TK.ok] at hok
  subst hok
  obtain ⟨hy, hk⟩ := hk
  have hyv := h.ev y
  rw [hy] at hyv
  have hyv2 : a.eval y = .slice none 0 0 := by
   generalize a.eval y = v at hyv
   cases hyv
   rfl
  have grd : ∀ (op : BinOp) (ad : Option Addr) (n c : Nat), (eqGuard op ty x y (.slice ad n c) (.slice none 0 0)).run P w = .ok () w := fun op ad n c => by
   unfold eqGuard
   cases op <;> rfl
  cases op
  case eql =>
   obtain ⟨ad, n, c, hv, hk⟩ := zh0 h hk
   have run : (execOp a.eval ⟨dst, .binOp .eql ty x y yt, type, pos, after, guard⟩).run P w = .ok (.value (.bool ad.isNone)) w := by
    simp only [execOp, hv, hyv2, Sem.run_bind, grd, Result.andThen, Go.run_eql_slice_nil w ty e ad n c hu]
    rfl
   rw [run]
   exact hs _ ι _ _ (h.pure _ _ _ (fun _ => .t (.b _))) hk
  case neq =>
   obtain ⟨ad, n, c, hv, hk⟩ := zh0 h hk
   have run : (execOp a.eval ⟨dst, .binOp .neq ty x y yt, type, pos, after, guard⟩).run P w = .ok (.value (.bool (!ad.isNone))) w := by
    simp only [execOp, hv, hyv2, Sem.run_bind, grd, Result.andThen, run_neq_slice_nil_any w ty e ad n c 0 0 hu]
    rfl
   rw [run]
   exact hs _ ι _ _ (h.pure _ _ _ (fun _ => .t (.b _))) hk
  all_goals exact hk.elim
 ·exact hk.elim
abbrev YC := List A → (Nat → O) → ((Nat → O) → Prop) → Prop
structure Env where
 l : Nat
 y : YC
 p : S → Prop
def XT (X T : World → (Nat → Prop) → (Nat → O) → (Nat → Value) → Prop) : World → (Nat → Prop) → (Nat → O) → (Nat → Value) → Prop := fun w D o ι => X w D o ι ∧ T w D o ι
def YOk (P : Program) (Hy : World → Prop) (X : World → (Nat → Prop) → (Nat → O) → (Nat → Value) → Prop) (B : Nat) (St : Nat → Prop) (w0 : World) (n l : Nat) (Y : YC) : Prop :=
 ∀ args o R, Y args o R → ∀ (T : World → (Nat → Prop) → (Nat → O) → (Nat → Value) → Prop) (ι : Nat → Value) (W : World) (cx : Array Value), XC T 0 → Mem Hy (XT X T) B St w0 o ι W → cx.size = args.length → (∀ (j : Nat) v x, cx[j]? = some v → args[j]? = some x → Ra W (Sd B St o ι W) o ι v x) →
  YieldAt (FW none) n P l cx W fun e W' => e = .returned (.bool true) ∧ ∃ o' ι', R o' ∧ Mem Hy (XT X T) B St w0 o' ι' W'
def YH (P : Program) (Hy : World → Prop) (X : World → (Nat → Prop) → (Nat → O) → (Nat → Value) → Prop) (B : Nat) (St : Nat → Prop) (w0 : World) (Dp : List Deferred → Prop) (ro : Option Nat) (n : Nat) (E : Env) : Prop := (∀ args o R, ¬ E.y args o R) ∨ (ro = none ∧ (∀ d, Dp d → d = []) ∧ YOk P Hy X B St w0 (n - 1) E.l E.y)
def opY (ops : List Oper) (E : Env) (o : Oper) (s : S) (K : S → Prop) : Prop := gOk ops o s ∧ match o.op with
 | .call c => match c.callee with
  | .value (.tmp t) => s.ev (.tmp t) = .t (.yl E.l) ∧ ∃ R, E.y (c.args.toList.map s.ev) s.o R ∧ ∀ o', R o' → K ((⟨s.n, s.t, o'⟩ : S).put o.dst (.t (.b true)))
  | _ => False
 | _ => False
theorem zly {ro : Option Nat} {n : Nat} {E : Env} (hY : YH P Hy X B St w0 Dp ro n E) (h : Rel Hy X B St w0 Dp s ι a w) {Q : Exit → Act → World → Prop} {ops : Array Oper} {i : Nat} {o : Oper} (ho : ops[i]? = some o) {K : S → Prop} {K' : Act → World → Prop} (hs : Sim Hy X B St w0 Dp K K') (hk : opY ops.toList E o s K) : wpOpIn (FW ro) n P ops Q i K' a w := by
 obtain ⟨hg, hk⟩ := hk
 unfold wpOpIn
 simp only [ho]
 rw [if_pos (zey h hg)]
 obtain ⟨dst, op, type, pos, after, guard⟩ := o
 cases op <;> first | exact hk.elim | skip
 rename_i c
 obtain ⟨callee, args, tys⟩ := c
 obtain ⟨az, ae⟩ := zew h args
 cases callee with
 | builtin b => exact hk.elim
 | invoke r m => exact hk.elim
 | value f =>
  cases f with
  | const v => exact hk.elim
  | global g => exact hk.elim
  | func f => exact hk.elim
  | tmp t =>
   obtain ⟨hyl, R, hy, hk⟩ := hk
   rcases hY with hY | ⟨rfl, hDp, hY⟩
   ·exact absurd hy (hY _ _ _)
   have hx := h.ev (.tmp t)
   rw [hyl] at hx
   have hv : a.eval (.tmp t) = .func (.yield E.l) #[] #[] := by
    generalize a.eval (.tmp t) = v at hx
    cases hx with
    | t hr => cases hr; rfl
   have hd : a.defers = [] := hDp _ h.dv
   obtain ⟨N, L, n1, n2, n3, n4, n5⟩ := h.xd
   have hM : Mem Hy (XT X fun w D o ι => (∀ (t : Nat) v, a.tmps[t]? = some v → Ra w D o ι v (s.t t)) ∧ N ≤ w.heap.size) B St w0 s.o ι w :=
    ⟨h.below, h.hB, h.ob, h.inj, h.stB, h.hy, ⟨h.x, h.tm, n1⟩, N, n1, fun w1 D o ι w' D' o' ι' mT mA hz hk hx => ⟨n2 _ _ _ _ _ _ _ _ mT mA hz hk hx.1, fun t v e => mA _ _ (hx.2.1 t v e), Nat.le_trans hx.2.2 hz⟩⟩
   obtain ⟨fn, tmps, assign, body, hyr, hr⟩ := hY _ _ _ hy (fun w D o ι => (∀ (t : Nat) v, a.tmps[t]? = some v → Ra w D o ι v (s.t t)) ∧ N ≤ w.heap.size) ι w (args.map a.eval) (fun w1 D o ι w' D' o' ι' mT mA hz hk hx => ⟨fun t v e => mA _ _ (hx.1 t v e), Nat.le_trans hx.2 hz⟩) hM az ae
   refine ⟨fun f _ => zc7 f, ?_⟩
   rw [Oper.semAt_eq _ _ _ (fun c e => by cases e)]
   have run : (execOp a.eval ⟨dst, .call ⟨.value (.tmp t), args, tys⟩, type, pos, after, guard⟩).run P w = .ok (.round E.l fn tmps assign body) w := by
    simp only [execOp, resolve, hv]
    simp [Deferred.ofValue, invoke, hyr]
   rw [run]
   refine ⟨fun e => (by rw [zdH] at e; cases e), ?_⟩
   refine RoundIn.mono hr ?_
   rintro e W' ⟨rfl, o', ι', hR, hM'⟩
   have h' : Rel Hy X B St w0 Dp ⟨s.n, s.t, o'⟩ ι' a W' := ⟨hM'.below, hM'.hB, hM'.ob, hM'.inj, hM'.x.2.1, h.dv, h.sz, hM'.stB, hM'.hy, hM'.x.1, N, [], hM'.x.2.2, n2, by rw [hd]; exact DefIs.nil, List.nodup_nil, fun D hD => (by cases hD)⟩
   exact hs _ ι' _ _ (h'.pure dst (.t (.b true)) (.bool true) (fun _ => .t (.b true))) (hk o' hR)
def zdh (Hy : World → Prop) (X : World → (Nat → Prop) → (Nat → O) → (Nat → Value) → Prop) (B : Nat) (St : Nat → Prop) (w0 : World) (Dp : List Deferred → Prop) (E : Env) (Q : Exit → Act → World → Prop) : Prop := ∀ s ι a w, Rel Hy X B St w0 Dp s ι a w → E.p s → ∀ v, Ra w (Sd B St s.o ι w) s.o ι v (s.t s.n) → Q (.panic [{ v, recovered := false }]) a w
def S.pan (s : S) (x : A) (o' : Nat → O) : S := ⟨s.n, fun j => if j = s.n then x else s.t j, o'⟩
theorem Rel.pan (h : Rel Hy X B St w0 Dp s ι a w) (x : A) : Rel Hy X B St w0 Dp (s.pan x s.o) ι a w :=
 ⟨h.below, h.hB, h.ob, h.inj, fun t v e => by
  have hl := (Array.getElem?_eq_some_iff.1 e).1
  show Ra w _ _ _ v (if t = s.n then x else s.t t)
  rw [if_neg (by rw [← h.sz]; omega)]
  exact h.tm t v e, h.dv, h.sz, h.stB, h.hy, h.x, h.xd⟩
theorem zh1 (s : S) (x : A) (o' : Nat → O) : (s.pan x o').t (s.pan x o').n = x := if_pos rfl
def opP (ops : List Oper) (E : Env) (o : Oper) (s : S) : Prop := gOk ops o s ∧ match o.op with
 | .panic x => match s.ev x with
  | .t (.ifc ty y) => E.p (s.pan (.t (.ifc ty y)) s.o)
  | _ => False
 | _ => False
theorem zlz {ro : Option Nat} {n : Nat} {E : Env} {Q : Exit → Act → World → Prop} (hP : zdh Hy X B St w0 Dp E Q) (h : Rel Hy X B St w0 Dp s ι a w) {ops : Array Oper} {i : Nat} {o : Oper} (ho : ops[i]? = some o) {K' : Act → World → Prop} (hk : opP ops.toList E o s) : wpOpIn (FW ro) n P ops Q i K' a w := by
 obtain ⟨hg, hk⟩ := hk
 unfold wpOpIn
 simp only [ho]
 rw [if_pos (zey h hg)]
 refine zcI (fun c e => by rw [e] at hk; exact hk.elim) ?_
 unfold Oper.wp
 obtain ⟨dst, op, type, pos, after, guard⟩ := o
 cases op <;> first | exact hk.elim | skip
 rename_i x
 simp only at hk
 split at hk
 ·rename_i ty y e
  have hx := h.ev x
  rw [e] at hx
  obtain ⟨v, hv⟩ : ∃ v, a.eval x = .iface ty v := by
   generalize a.eval x = u at hx
   cases hx with
   | t hr => cases hr with
    | ifc ty v x hr => exact ⟨v, rfl⟩
  have run : (execOp a.eval ⟨dst, .panic x, type, pos, after, guard⟩).run P w = .halt (.panic (.iface ty v)) w := by
   simp [execOp, hv, Instr.panic, goPanic]
  rw [run]
  rw [hv] at hx
  exact hP _ ι a w (h.pan _) hk _ (by rw [zh1]; exact hx)
 ·exact hk.elim
structure Cp (P : Program) (Hy : World → Prop) (f : FuncId) (args : List A) (o : Nat → O) (R : List A → (Nat → O) → Prop) (Rp : A → (Nat → O) → Prop) : Prop where
 fn : ∃ fn, P.funcs[f]? = some fn ∧ fn.name ≠ "runtime.NumGoroutine" ∧ fn.body ≠ none
 go : ∀ X B St w0 ι w (cargs : Array Value), Mem Hy X B St w0 o ι w → cargs.size = args.length → (∀ (j : Nat) v x, cargs[j]? = some v → args[j]? = some x → Ra w (Sd B St o ι w) o ι v x) →
  Calls P f cargs w fun e w' => (∃ v ι' o' rs, e = .returned v ∧ R rs o' ∧ Mem Hy X B St w0 o' ι' w' ∧ RresM w' (Sd B St o' ι' w') o' ι' v rs) ∨ ∃ v ι' o' x, e = .panicked [{ v, recovered := false }] ∧ Rp x o' ∧ Mem Hy X B St w0 o' ι' w' ∧ Ra w' (Sd B St o' ι' w') o' ι' v x
theorem Cp.mono {f : FuncId} {args : List A} {o : Nat → O} {R R' : List A → (Nat → O) → Prop} {Rp Rp' : A → (Nat → O) → Prop} (h : Cp P Hy f args o R Rp) (hr : ∀ rs o', R rs o' → R' rs o') (hp : ∀ x o', Rp x o' → Rp' x o') : Cp P Hy f args o R' Rp' :=
 ⟨h.fn, fun X B St w0 ι w cargs hM hs ha => (h.go X B St w0 ι w cargs hM hs ha).mono (fun _ _ he => he.imp (fun ⟨v, ι', o', rs, h1, h2, h3⟩ => ⟨v, ι', o', rs, h1, hr _ _ h2, h3⟩) (fun ⟨v, ι', o', x, h1, h2, h3⟩ => ⟨v, ι', o', x, h1, hp _ _ h2, h3⟩))⟩
def opC (P : Program) (Hy : World → Prop) (ops : List Oper) (E : Env) (o : Oper) (s : S) (K : S → Prop) : Prop := gOk ops o s ∧ match o.op with
 | .call c => match c.callee with
  | .value (.func f) => ∃ R Rp, Cp P Hy f (c.args.toList.map s.ev) s.o R Rp ∧ (∀ rs o', R rs o' → K ((⟨s.n, s.t, o'⟩ : S).put o.dst (zbe rs))) ∧ ∀ x o', Rp x o' → E.p (s.pan x o')
  | _ => False
 | _ => False
theorem zlA {ro : Option Nat} {n : Nat} {E : Env} {Q : Exit → Act → World → Prop} (hP : zdh Hy X B St w0 Dp E Q) (h : Rel Hy X B St w0 Dp s ι a w) {ops : Array Oper} {i : Nat} {o : Oper} (ho : ops[i]? = some o) {K : S → Prop} {K' : Act → World → Prop} (hs : Sim Hy X B St w0 Dp K K') (hk : opC P Hy ops.toList E o s K) : wpOpIn (FW ro) n P ops Q i K' a w := by
 obtain ⟨hg, hk⟩ := hk
 unfold wpOpIn
 simp only [ho]
 rw [if_pos (zey h hg)]
 refine zcI (fun c e => by rw [e] at hk; exact hk.elim) ?_
 unfold Oper.wp
 obtain ⟨dst, op, type, pos, after, guard⟩ := o
 cases op <;> first | exact hk.elim | skip
 rename_i c
 obtain ⟨callee, args, tys⟩ := c
 obtain ⟨az, ae⟩ := zew h args
 cases callee with
 | builtin b => exact hk.elim
 | invoke r m => exact hk.elim
 | value f =>
  cases f with
  | const v => exact hk.elim
  | global g => exact hk.elim
  | tmp t => exact hk.elim
  | func f =>
   obtain ⟨R, Rp, hc, hk, hp⟩ := hk
   obtain ⟨fn, f1, f2, f3⟩ := hc.fn
   have run : (execOp a.eval ⟨dst, .call ⟨.value (.func f), args, tys⟩, type, pos, after, guard⟩).run P w = .ok (.enter f (args.map a.eval)) w := by
    simp [execOp, resolve, Deferred.ofValue, Act.eval, invoke, callFunc, f1, f2, f3]
   rw [run]
   obtain ⟨N, L, n1, n2, n3, n4, n5⟩ := h.xd
   have hM : Mem Hy (fun w D o ι => X w D o ι ∧ (∀ (t : Nat) v, a.tmps[t]? = some v → Ra w D o ι v (s.t t)) ∧ N ≤ w.heap.size ∧ ∀ D ∈ L, w.heap[D]? = some (.deferred (some []))) B St w0 s.o ι w :=
    ⟨h.below, h.hB, h.ob, h.inj, h.stB, h.hy, ⟨h.x, h.tm, n1, fun D hD => (n5 D hD).2.2⟩, w.heap.size, Nat.le_refl _, fun w1 D o ι w' D' o' ι' mT mA hz hk hx => ⟨n2 _ _ _ _ _ _ _ _ mT mA hz (fun b ob hb => hk b ob (Nat.lt_of_lt_of_le hb n1)) hx.1, fun t v e => mA _ _ (hx.2.1 t v e), Nat.le_trans hx.2.2.1 hz,
     fun D hD => hk D _ (Array.getElem?_eq_some_iff.1 (n5 D hD).2.2).1 (zdr _) (hx.2.2.2 D hD)⟩⟩
   refine (hc.go _ B St w0 ι w (args.map a.eval) hM az ae).mono ?_
   rintro e w' (⟨v, ι', o', rs, rfl, hR, hM', hv⟩ | ⟨v, ι', o', x, rfl, hR, hM', hv⟩)
   ·have h' : Rel Hy X B St w0 Dp ⟨s.n, s.t, o'⟩ ι' a w' := ⟨hM'.below, hM'.hB, hM'.ob, hM'.inj, hM'.x.2.1, h.dv, h.sz, hM'.stB, hM'.hy, hM'.x.1, N, L, hM'.x.2.2.1, n2, n3, n4, fun D hD => ⟨(n5 D hD).1, (n5 D hD).2.1, hM'.x.2.2.2 D hD⟩⟩
    exact hs _ ι' _ _ (h'.pure dst (zbe rs) v (fun _ => zhX hv)) (hk rs o' hR)
   ·have h' : Rel Hy X B St w0 Dp ⟨s.n, s.t, o'⟩ ι' a w' := ⟨hM'.below, hM'.hB, hM'.ob, hM'.inj, hM'.x.2.1, h.dv, h.sz, hM'.stB, hM'.hy, hM'.x.1, N, L, hM'.x.2.2.1, n2, n3, n4, fun D hD => ⟨(n5 D hD).1, (n5 D hD).2.1, hM'.x.2.2.2 D hD⟩⟩
    exact hP _ ι' a w' (h'.pan x) (hp x o' hR) v (by rw [zh1]; exact hv)
def zez (P : Program) (Hy : World → Prop) (tt : Tys) (cls : Nat → Nat) (E : Env) (ops : List Oper) (o : Oper) (s : S) (K : S → Prop) : Prop := opK P Hy tt cls ops o s K ∨ opM P Hy ops o s K ∨ opF P Hy ops o s K ∨ opE tt o s K ∨ (∃ c, opK P Hy tt c ops o s K) ∨ opY ops E o s K ∨ opP ops E o s ∨ opC P Hy ops E o s K
theorem zh2 {ro : Option Nat} {n : Nat} {E : Env} (hT : Tys.ok P tt) {Q : Exit → Act → World → Prop} (hY : YH P Hy X B St w0 Dp ro n E) (hP : zdh Hy X B St w0 Dp E Q) (h : Rel Hy X B St w0 Dp s ι a w) {ops : Array Oper} {i : Nat} {o : Oper} (ho : ops[i]? = some o) {K : S → Prop} {K' : Act → World → Prop} (hs : Sim Hy X B St w0 Dp K K') (hk : zez P Hy tt cls E ops.toList o s K) : wpOpIn (FW ro) n P ops Q i K' a w := by
 rcases hk with hk | hk | hk | hk | ⟨c, hk⟩ | hk | hk | hk
 ·exact zed hT h ho hs hk
 ·exact zhY h ho hs hk
 ·exact zlw h ho hs hk
 ·exact zlx hT h ho hs hk
 ·exact zed hT h ho hs hk
 ·exact zly hY h ho hs hk
 ·exact zlz hP h ho hk
 ·exact zlA hP h ho hs hk
end
end Go.Proofs.YtbhoeanfnbkenaaGreatDoor
namespace Go.Proofs.YtbhoeanfnbkenaaGreatDoor
open Go.RowKit
def isN : Op → Bool
 | .move _ => true
 | .assign _ => true
 | .pick .. => true
 | .extract .. => true
 | .makeFunc .. => true
 | .binOp .. => true
 | .unOp .. => true
 | .convert .. => true
 | .field .. => true
 | _ => false
def rdO (o : Oper) (s : S) : List Nat := match isN o.op with
 | true => []
 | false => s.ids o.op.operands.toList
def wrO (cls : Nat → Nat) (o : Oper) (s : S) : List Nat := match isE o.op with
 | true => zb8 cls o.dst s o.op.operands.toList
 | false => []
def zbA (o : Oper) : List Nat := (o.after.toList.filter fun e => Region.binds .any e).map (·.on)
def zh3 (acc : List Nat) (o : Oper) : Nat := (zbA o).foldl (fun m k => m ||| (acc.getD k 0 ||| 2 ^ k)) 0
def zfy : List Oper → List Nat → List Nat
 | [], acc => acc
 | o :: os, acc => zfy os (acc ++ [zh3 acc o])
def bfs (ops : List Oper) : List Nat := zfy ops []
def dis (l m : List Nat) : Bool := l.all fun x => !m.contains x
def zcW (bf : Nat) (R W : List Nat) (fps : List (List Nat × List Nat)) : Bool := (W.isEmpty && fps.all (·.2.isEmpty)) || ((List.range fps.length).all fun j => bf.testBit j || (dis (fps.getD j ([], [])).2 (R ++ W) && dis W ((fps.getD j ([], [])).1 ++ (fps.getD j ([], [])).2)))
def zdV (ops : List Oper) : Bool := (List.range ops.length).all fun i => match ops[i]? with
 | some o => ((zbA o).all fun k => decide (k < i)) && (List.range i).all fun j => ((bfs ops).getD i 0).testBit j || (match ops[j]? with
  | some x => x.apart ops.toArray o
  | none => true)
 | none => true
def opX (P : Program) (Hy : World → Prop) (tt : Tys) (cls : Nat → Nat) (ops : List Oper) (o : Oper) (s : S) (R W : List Nat) (K : S → Prop) : Prop := (R = rdO o s ∧ W = wrO cls o s ∧ opK P Hy tt cls ops o s K) ∨ (∃ c, R = rdO o s ∧ W = wrO c o s ∧ opK P Hy tt c ops o s K) ∨ opD P Hy ops o s R W K
def zdW (ops : List Oper) (i : Nat) : Bool := ((List.range i).all fun j => ((bfs ops).getD i 0).testBit j) && ((List.range ops.length).all fun k => decide (k ≤ i) || ((bfs ops).getD k 0).testBit i)
def zY (P : Program) (Hy : World → Prop) (tt : Tys) (cls : Nat → Nat) (E : Env) (ops : List Oper) : List Oper → Nat → S → List (List Nat × List Nat) → (S → Prop) → Prop
 | [], _, s, _, K => K s
 | o :: os, i, s, fps, K => (∃ R W, zcW ((bfs ops).getD i 0) R W fps = true ∧ opX P Hy tt cls ops o s R W fun s' => zY P Hy tt cls E ops os (i + 1) s' (fps ++ [(R, W)]) K) ∨
  (zdW ops i = true ∧ zez P Hy tt cls E ops o s fun s' => zY P Hy tt cls E ops os (i + 1) s' (fps ++ [([], [])]) K)
inductive Bef (ops : List Oper) : Nat → Nat → Prop where
 | one {k i : Nat} {o : Oper} (h : ops[i]? = some o) (hk : k ∈ zbA o) : Bef ops k i
 | step {k m i : Nat} {o : Oper} (h : ops[i]? = some o) (hm : m ∈ zbA o) (hk : Bef ops k m) : Bef ops k i
theorem zh4 (acc : List Nat) (k : Nat) : ∀ (l : List Nat) (m : Nat), (l.foldl (fun m k => m ||| (acc.getD k 0 ||| 2 ^ k)) m).testBit k = true → m.testBit k = true ∨ ∃ p ∈ l, k = p ∨ (acc.getD p 0).testBit k = true
 | [], m, h => .inl h
 | p :: l, m, h => by
  rcases zh4 acc k l _ h with h | ⟨q, hq, h⟩
  ·rw [Nat.testBit_or, Nat.testBit_or, Nat.testBit_two_pow, Bool.or_eq_true, Bool.or_eq_true, decide_eq_true_eq] at h
   rcases h with h | h | h
   ·exact .inl h
   ·exact .inr ⟨p, List.mem_cons_self, .inr h⟩
   ·exact .inr ⟨p, List.mem_cons_self, .inl h.symm⟩
  ·exact .inr ⟨q, List.mem_cons_of_mem _ hq, h⟩
theorem zh5 (ops : List Oper) : ∀ (os : List Oper) (acc : List Nat), ops.drop acc.length = os → (∀ i k, (acc.getD i 0).testBit k = true → Bef ops k i) → ∀ i k, ((zfy os acc).getD i 0).testBit k = true → Bef ops k i
 | [], acc, _, h => h
 | o :: os, acc, hd, h => by
  have ho : ops[acc.length]? = some o := by
   have : (ops.drop acc.length)[0]? = some o := by rw [hd]; rfl
   rwa [List.getElem?_drop, Nat.add_zero] at this
  refine zh5 ops os (acc ++ [zh3 acc o]) ?_ (fun i k hk => ?_)
  ·rw [List.length_append, List.length_singleton, ← List.drop_drop, hd]
   rfl
  ·by_cases hi : i < acc.length
   ·rw [List.getD_eq_getElem?_getD, List.getElem?_append_left hi, ← List.getD_eq_getElem?_getD] at hk
    exact h i k hk
   ·by_cases hi2 : i = acc.length
    ·subst hi2
     rw [List.getD_eq_getElem?_getD, List.getElem?_append_right (Nat.le_refl _), Nat.sub_self] at hk
     rcases zh4 acc k _ _ hk with hk | ⟨m, hm, rfl | hk⟩
     ·rw [Nat.zero_testBit] at hk
      cases hk
     ·exact .one ho hm
     ·exact .step ho hm (h m k hk)
    ·rw [List.getD_eq_getElem?_getD, List.getElem?_append_right (by omega)] at hk
     rw [List.getElem?_eq_none (by simp; omega), Option.getD_none, Nat.zero_testBit] at hk
     cases hk
theorem zeA {ops : List Oper} {i k : Nat} (h : ((bfs ops).getD i 0).testBit k = true) : Bef ops k i :=
 zh5 ops ops [] rfl (fun i k hk => by rw [show ([] : List Nat).getD i 0 = 0 from rfl, Nat.zero_testBit] at hk; cases hk) i k h
section
variable {P : Program} {tt : Tys} {Hy : World → Prop} {cls : Nat → Nat} {s : S}
structure AgrO (ops : List Oper) (cls : Nat → Nat) (o : Oper) (s s2 : S) : Prop where
 n : s2.n = s.n
 tm : ∀ t ∈ o.looksAt ops.toArray, s2.t t = s.t t
 o : ∀ id, id ∈ rdO o s ∨ id ∈ wrO cls o s → s2.o id = s.o id
theorem AgrO.ev {ops : List Oper} {o : Oper} {s2 : S} (h : AgrO ops cls o s s2) : ∀ x ∈ o.op.operands.toList, s2.ev x = s.ev x := fun x hx => by
 cases x with
 | tmp t =>
  have := h.tm t (List.mem_append_left _ (List.mem_filterMap.2 ⟨.tmp t, hx, rfl⟩))
  unfold S.ev
  simp only [h.n, this]
 | _ => rfl
theorem AgrO.agr {ops : List Oper} {o : Oper} {s2 : S} (hn : isN o.op = false) (h : AgrO ops cls o s s2) : Agr o.op.operands.toList s s2 :=
 ⟨h.ev, fun id hid => h.o id (.inl (by unfold rdO; rw [hn]; exact hid))⟩
theorem zlB {op : Op} (h : isE op = true) : isN op = false := by
 cases op <;> first | rfl | cases h
theorem zlC {op : Op} (hn : isN op = true) {K : A → Prop} (hk : Pk tt op s K) : ∃ y, K y ∧ ∀ (s2 : S) (K2 : A → Prop), (∀ x ∈ op.operands.toList, s2.ev x = s.ev x) → K2 y → Pk tt op s2 K2 := by
 obtain ⟨y, h1, h2⟩ := zgX hk
 refine ⟨y, h1, fun s2 K2 he hK => ?_⟩
 have h := h2 ⟨s2.n, s2.t, s.o⟩ K2 ⟨fun x hx => by rw [← he x hx]; cases x <;> rfl, fun _ _ => rfl⟩ hK
 cases op <;> first | (cases hn; done) | exact h | (rename_i u _ _; cases u <;> exact h)
theorem zh6 {ops : List Oper} {o : Oper} {K : S → Prop} (hk : opK P Hy tt cls ops o s K) : ∃ up y, (∀ p ∈ up, p.1 ∈ wrO cls o s) ∧ K (upd s up o.dst y) ∧ ∀ (s2 : S) (K2 : S → Prop), AgrO ops cls o s s2 → K2 (upd s2 up o.dst y) → opK P Hy tt cls ops o s2 K2 := by
 have one : ∀ {K : S → Prop}, op1 P Hy tt cls o s K → ∃ up y, (∀ p ∈ up, p.1 ∈ wrO cls o s) ∧ K (upd s up o.dst y) ∧ ∀ (s2 : S) (K2 : S → Prop), AgrO ops cls o s s2 → K2 (upd s2 up o.dst y) → op1 P Hy tt cls o s2 K2 := fun {K} hk => by
  unfold op1 at hk
  split at hk
  ·rename_i he
   obtain ⟨up, y, h1, h2, h3⟩ := zj8 hk
   have hw : wrO cls o s = zb8 cls o.dst s o.op.operands.toList := by unfold wrO; rw [he]
   refine ⟨up, y, by rw [hw]; exact h1, h2, fun s2 K2 hA hK => ?_⟩
   unfold op1
   rw [he]
   exact h3 s2 K2 (hA.agr (zlB he)) (fun id hid => hA.o id (.inr (by rw [hw]; exact hid))) hK
  ·rename_i he
   cases hn : isN o.op with
   | true =>
    obtain ⟨y, h1, h2⟩ := zlC hn hk
    refine ⟨[], y, fun _ h => (by cases h), h1, fun s2 K2 hA hK => ?_⟩
    unfold op1
    rw [he]
    exact h2 s2 _ hA.ev hK
   | false =>
    obtain ⟨y, h1, h2⟩ := zgX hk
    refine ⟨[], y, fun _ h => (by cases h), h1, fun s2 K2 hA hK => ?_⟩
    unfold op1
    rw [he]
    exact h2 s2 _ (hA.agr hn) hK
 unfold opK at hk
 split at hk
 ·rename_i hg
  obtain ⟨up, y, h1, h2, h3⟩ := one hk
  refine ⟨up, y, h1, h2, fun s2 K2 hA hK => ?_⟩
  unfold opK
  rw [hg]
  exact h3 s2 K2 hA hK
 ·rename_i g want hg
  split at hk
  ·rename_i t ht
   obtain ⟨htn, hk⟩ := hk
   have hl : t ∈ o.looksAt ops.toArray := by
    refine List.mem_append_right _ ?_
    rw [hg]
    simp [ht]
   split at hk
   ·rename_i q e
    by_cases hw : q = want
    ·obtain ⟨up, y, h1, h2, h3⟩ := one (hk.1 hw)
     refine ⟨up, y, h1, h2, fun s2 K2 hA hK => ?_⟩
     unfold opK
     rw [hg]
     simp only [ht, hA.n, hA.tm t hl, e]
     exact ⟨htn, fun _ => h3 s2 K2 hA hK, fun h => absurd hw (by rw [h]; cases want <;> simp)⟩
    ·have hq : q = !want := by cases q <;> cases want <;> simp_all
     refine ⟨[], .tup [], fun _ h => (by cases h), hk.2 hq, fun s2 K2 hA hK => ?_⟩
     unfold opK
     rw [hg]
     simp only [ht, hA.n, hA.tm t hl, e]
     exact ⟨htn, fun h => absurd h hw, fun _ => hK⟩
   ·rename_i e
    refine ⟨[], .tup [], fun _ h => (by cases h), hk, fun s2 K2 hA hK => ?_⟩
    unfold opK
    rw [hg]
    simp only [ht, hA.n, hA.tm t hl, e]
    exact ⟨htn, hK⟩
   ·exact hk.elim
  ·exact hk.elim
structure AgrX (ops : List Oper) (R W : List Nat) (o : Oper) (s s2 : S) : Prop where
 n : s2.n = s.n
 tm : ∀ t ∈ o.looksAt ops.toArray, s2.t t = s.t t
 o : ∀ id, id ∈ R ∨ id ∈ W → s2.o id = s.o id
def zfz (P : Program) (Hy : World → Prop) (tt : Tys) (cls : Nat → Nat) (ops : List Oper) (o : Oper) (R W : List Nat) (up : List (Nat × O)) (y : A) (s2 : S) : Prop := ∀ K2 : S → Prop, K2 (upd s2 up o.dst y) → opK P Hy tt cls ops o s2 K2 ∨ (∃ c, opK P Hy tt c ops o s2 K2) ∨ opD P Hy ops o s2 R W K2
theorem zlD {ops : List Oper} {o : Oper} {R W : List Nat} {K : S → Prop} (hk : opX P Hy tt cls ops o s R W K) : ∃ up y, (∀ p ∈ up, p.1 ∈ W) ∧ K (upd s up o.dst y) ∧ ∀ s2 : S, AgrX ops R W o s s2 → zfz P Hy tt cls ops o R W up y s2 := by
 rcases hk with ⟨rfl, rfl, hk⟩ | ⟨c, rfl, rfl, hk⟩ | hk
 ·obtain ⟨up, y, h1, h2, h3⟩ := zh6 hk
  exact ⟨up, y, h1, h2, fun s2 hA K2 hK => .inl (h3 s2 K2 ⟨hA.n, hA.tm, hA.o⟩ hK)⟩
 ·obtain ⟨up, y, h1, h2, h3⟩ := zh6 (cls := c) hk
  exact ⟨up, y, h1, h2, fun s2 hA K2 hK => .inr (.inl ⟨c, h3 s2 K2 ⟨hA.n, hA.tm, hA.o⟩ hK⟩)⟩
 ·obtain ⟨hg, hk⟩ := hk
  have hgA : ∀ s2 : S, AgrX ops R W o s s2 → gOk ops o s2 := fun s2 hA => by
   unfold gOk at hg ⊢
   split at hg
   ·trivial
   ·rename_i g want e
    split at hg
    ·rename_i t ht
     have hl : t ∈ o.looksAt ops.toArray := by
      refine List.mem_append_right _ ?_
      rw [e]
      simp [ht]
     rw [hA.n, hA.tm t hl]
     exact hg
    ·exact hg.elim
  have ev : ∀ s2 : S, AgrX ops R W o s s2 → ∀ x ∈ o.op.operands.toList, s2.ev x = s.ev x := fun s2 h x hx => by
   cases x with
   | tmp t =>
    have := h.tm t (List.mem_append_left _ (List.mem_filterMap.2 ⟨.tmp t, hx, rfl⟩))
    unfold S.ev
    simp only [h.n, this]
   | _ => rfl
  obtain ⟨dst, op, type, pos, after, guard⟩ := o
  cases op <;> first | exact hk.elim | skip
  rename_i c
  obtain ⟨callee, args, tys⟩ := c
  have hargs : ∀ f, callee = .value f → ∀ s2 : S, AgrX ops R W ⟨dst, .call ⟨callee, args, tys⟩, type, pos, after, guard⟩ s s2 → args.toList.map s2.ev = args.toList.map s.ev := fun f hf s2 hA => List.map_congr_left (fun x hx => ev s2 hA x (by
   subst hf
   simp [Op.operands, Call.operands]; right; simpa using hx))
  have inW : ∀ {up : List (Nat × O)}, (up.all fun p => W.contains p.1) = true → ∀ p ∈ up.reverse, p.1 ∈ W := fun h p hp => by
   have := List.all_eq_true.1 h p (List.mem_reverse.1 hp)
   simpa using this
  cases callee with
  | builtin b => exact hk.elim
  | invoke r m => exact hk.elim
  | value f =>
   cases f with
   | const v => exact hk.elim
   | global g => exact hk.elim
   | func f =>
    obtain ⟨up, y, h1, hc, hk⟩ := hk
    refine ⟨up.reverse, y, inW h1, hk, fun s2 hA K2 hK => .inr (.inr ⟨hgA s2 hA, up, y, h1, ?_, hK⟩)⟩
    rw [hargs _ rfl s2 hA]
    exact hc.agr fun id hid => hA.o id (List.mem_append.1 hid)
   | tmp t =>
    simp only at hk
    split at hk
    ·rename_i f l m e
     obtain ⟨up, y, h1, hc, hk⟩ := hk
     refine ⟨up.reverse, y, inW h1, hk, fun s2 hA K2 hK => .inr (.inr ⟨hgA s2 hA, ?_⟩)⟩
     have e2 : s2.ev (.tmp t) = .fn f l m := by rw [ev s2 hA _ (by simp [Op.operands, Call.operands]), e]
     simp only [e2]
     refine ⟨up, y, h1, ?_, hK⟩
     rw [hargs _ rfl s2 hA]
     exact hc.agr fun id hid => hA.o id (List.mem_append.1 hid)
    ·exact hk.elim
theorem zh7 (s : S) (up : List (Nat × O)) : (up.foldl (fun s p => s.ob p.1 p.2) s).t = s.t ∧ (up.foldl (fun s p => s.ob p.1 p.2) s).n = s.n := by
 induction up generalizing s with
 | nil => exact ⟨rfl, rfl⟩
 | cons p up ih => exact ih (s.ob p.1 p.2)
theorem zeB (up : List (Nat × O)) (id : Nat) : ∀ s : S, id ∉ up.map (·.1) → (up.foldl (fun s p => s.ob p.1 p.2) s).o id = s.o id := by
 induction up with
 | nil => intro s _; rfl
 | cons p up ih =>
  intro s h
  rw [List.map_cons, List.mem_cons, not_or] at h
  rw [List.foldl_cons, ih _ h.2]
  exact if_neg h.1
theorem zfA (up : List (Nat × O)) (id : Nat) : ∀ s s2 : S, s.o id = s2.o id → (up.foldl (fun s p => s.ob p.1 p.2) s).o id = (up.foldl (fun s p => s.ob p.1 p.2) s2).o id := by
 induction up with
 | nil => intro s s2 h; exact h
 | cons p up ih =>
  intro s s2 h
  refine ih _ _ ?_
  unfold S.ob
  dsimp only
  split
  ·rfl
  ·exact h
theorem zlE (up : List (Nat × O)) (id : Nat) : ∀ s s2 : S, id ∈ up.map (·.1) → (up.foldl (fun s p => s.ob p.1 p.2) s).o id = (up.foldl (fun s p => s.ob p.1 p.2) s2).o id := by
 induction up with
 | nil => intro s s2 h; cases h
 | cons p up ih =>
  intro s s2 h
  rw [List.foldl_cons, List.foldl_cons]
  by_cases hin : id ∈ up.map (·.1)
  ·exact ih _ _ hin
  ·rw [List.map_cons] at h
   have e : id = p.1 := (List.mem_cons.1 h).resolve_right hin
   refine zfA up id _ _ ?_
   unfold S.ob
   dsimp only
   rw [if_pos e, if_pos e]
theorem zlF (s : S) (d : Option Nat) (y : A) (t : Nat) : (s.put d y).t t = if d = some t then y else s.t t := by
 cases d with
 | none => rfl
 | some d =>
  unfold S.put
  dsimp only
  by_cases h : t = d
  ·rw [if_pos h, if_pos (by rw [h])]
  ·rw [if_neg h, if_neg (fun e => h (Option.some.inj e).symm)]
theorem zlG (s : S) (d : Option Nat) (y : A) : (s.put d y).o = s.o := by cases d <;> rfl
theorem zlH (s : S) (d : Option Nat) (y : A) : (s.put d y).n = s.n := by cases d <;> rfl
theorem zeC (s : S) (up : List (Nat × O)) (d : Option Nat) (y : A) (t : Nat) : (upd s up d y).t t = if d = some t then y else s.t t := by
 unfold upd
 rw [zlF, (zh7 s up).1]
theorem zcy (s : S) (up : List (Nat × O)) (d : Option Nat) (y : A) : (upd s up d y).o = (up.foldl (fun s p => s.ob p.1 p.2) s).o := zlG _ _ _
theorem zh8 (s : S) (up : List (Nat × O)) (d : Option Nat) (y : A) : (upd s up d y).n = s.n := (zlH _ _ _).trans (zh7 s up).2
theorem S.ext3 {s s2 : S} (h1 : s.n = s2.n) (h2 : ∀ t, s.t t = s2.t t) (h3 : ∀ id, s.o id = s2.o id) : s = s2 := by
 cases s; cases s2
 simp only [S.mk.injEq]
 exact ⟨h1, funext h2, funext h3⟩
theorem zlI (s : S) (u1 u2 : List (Nat × O)) (d1 d2 : Option Nat) (y1 y2 : A) (hd : ∀ t, d1 = some t → d2 ≠ some t) (hu : ∀ id, id ∈ u1.map (·.1) → id ∉ u2.map (·.1)) :
  upd (upd s u1 d1 y1) u2 d2 y2 = upd (upd s u2 d2 y2) u1 d1 y1 := by
 refine S.ext3 (by simp only [zh8]) (fun t => ?_) (fun id => ?_)
 ·simp only [zeC]
  by_cases h1 : d1 = some t
  ·rw [if_pos h1, if_neg (hd t h1), if_pos h1]
  ·rw [if_neg h1, if_neg h1]
 ·rw [zcy, zcy]
  by_cases h1 : id ∈ u1.map (·.1)
  ·rw [zeB u2 id _ (hu id h1), zcy, zlE u1 id _ _ h1]
  ·rw [zeB u1 id _ h1, zcy]
   refine zfA u2 id _ _ ?_
   rw [zcy, zeB u1 id _ h1]
theorem zh9 {E : Env} (ops : List Oper) : ∀ (os : List Oper) (i : Nat) (s : S) (fps : List (List Nat × List Nat)) (K : S → Prop), i ≤ ops.length → ops.drop i = os → fps.length = i → zY P Hy tt cls E ops os i s fps K →
  ∃ (hi : Nat) (c : Nat → S) (up : Nat → List (Nat × O)) (y : Nat → A) (Rf Wf : Nat → List Nat), i ≤ hi ∧ hi ≤ ops.length ∧ c i = s ∧ ((hi = ops.length ∧ K (c hi)) ∨ ∃ o fps', ops[hi]? = some o ∧ zdW ops hi = true ∧ fps'.length = hi ∧ zez P Hy tt cls E ops o (c hi) fun s' => zY P Hy tt cls E ops (ops.drop (hi + 1)) (hi + 1) s' (fps' ++ [([], [])]) K) ∧
   ∀ j o, i ≤ j → j < hi → ops[j]? = some o →
   c (j + 1) = upd (c j) (up j) o.dst (y j) ∧ (∀ p ∈ up j, p.1 ∈ Wf j) ∧ (∀ s2 : S, AgrX ops (Rf j) (Wf j) o (c j) s2 → zfz P Hy tt cls ops o (Rf j) (Wf j) (up j) (y j) s2) ∧
   ∀ k, k < j → Bef ops k j ∨ ((k < i → dis (fps.getD k ([], [])).2 (Rf j ++ Wf j) = true ∧ dis (Wf j) ((fps.getD k ([], [])).1 ++ (fps.getD k ([], [])).2) = true) ∧
    (i ≤ k → ∀ x, ops[k]? = some x → dis (Wf k) (Rf j ++ Wf j) = true ∧ dis (Wf j) (Rf k ++ Wf k) = true))
 | [], i, s, fps, K, hle, hd, hf, hk => by
  have h2 : ops.length ≤ i := List.drop_eq_nil_iff.1 hd
  refine ⟨i, fun _ => s, fun _ => [], fun _ => .junk, fun _ => [], fun _ => [], Nat.le_refl _, hle, rfl, .inl ⟨by omega, hk⟩, fun j o hj hj2 ho => ?_⟩
  omega
 | o :: os, i, s, fps, K, hle, hd, hf, hk => by
  have ho : ops[i]? = some o := by
   have : (ops.drop i)[0]? = some o := by rw [hd]; rfl
   rwa [List.getElem?_drop, Nat.add_zero] at this
  have hil := (List.getElem?_eq_some_iff.1 ho).1
  have hd2 : ops.drop (i + 1) = os := by rw [← List.drop_drop, hd]; rfl
  rcases hk with ⟨R0, W0, hok, hk⟩ | ⟨hb, hk⟩
  ·obtain ⟨u, z, h1, hk, h3⟩ := zlD hk
   obtain ⟨hi, c, up, y, Rf, Wf, g0, g01, g1, g2, g3⟩ := zh9 ops os (i + 1) _ _ K hil hd2 (by rw [List.length_append, hf]; rfl) hk
   have hne : hi ≠ i := by omega
   refine ⟨hi, fun j => if j = i then s else c j, fun j => if j = i then u else up j, fun j => if j = i then z else y j, fun j => if j = i then R0 else Rf j, fun j => if j = i then W0 else Wf j, by omega, g01, if_pos rfl, ?_, fun j x hj hj2 hx => ?_⟩
   ·dsimp only
    rw [if_neg hne]
    exact g2
   ·by_cases hji : j = i
    ·subst hji
     rw [ho] at hx
     cases hx
     dsimp only
     rw [if_neg (by omega)]
     simp only [↓reduceIte]
     refine ⟨g1, h1, h3, fun k hk => ?_⟩
     by_cases hb : ((bfs ops).getD j 0).testBit k = true
     ·exact .inl (zeA hb)
     ·right
      refine ⟨fun _ => ?_, fun h => absurd hk (by omega)⟩
      unfold zcW at hok
      rw [Bool.or_eq_true] at hok
      rcases hok with hok | hok
      ·rw [Bool.and_eq_true] at hok
       have e1 : W0 = [] := List.isEmpty_iff.1 hok.1
       have e2 : (fps.getD k ([], [])).2 = [] := by
        have hkl : k < fps.length := by omega
        have := List.all_eq_true.1 hok.2 fps[k] (List.getElem_mem hkl)
        rw [List.getD_eq_getElem?_getD, List.getElem?_eq_getElem hkl]
        exact List.isEmpty_iff.1 this
       rw [e1, e2]
       exact ⟨rfl, rfl⟩
      ·have := List.all_eq_true.1 hok k (List.mem_range.2 (by omega))
       rw [Bool.or_eq_true, Bool.and_eq_true] at this
       rcases this with h | h
       ·exact absurd h hb
       ·exact h
    ·obtain ⟨q1, q2, q3, q4⟩ := g3 j x (by omega) hj2 hx
     dsimp only
     rw [if_neg (by omega)]
     simp only [if_neg hji]
     refine ⟨q1, q2, q3, fun k hk => ?_⟩
     rcases q4 k hk with h | ⟨p1, p2⟩
     ·exact .inl h
     ·right
      refine ⟨fun hki => ?_, fun hki x' hx' => ?_⟩
      ·have := p1 (by omega)
       rwa [List.getD_eq_getElem?_getD, List.getElem?_append_left (by omega), ← List.getD_eq_getElem?_getD] at this
      ·by_cases hk2 : k = i
       ·subst hk2
        rw [ho] at hx'
        cases hx'
        simp only [↓reduceIte]
        have := p1 (by omega)
        rw [List.getD_eq_getElem?_getD, List.getElem?_append_right (by omega), hf, Nat.sub_self] at this
        exact this
       ·simp only [if_neg hk2]
        exact p2 (by omega) x' hx'
  ·refine ⟨i, fun _ => s, fun _ => [], fun _ => .junk, fun _ => [], fun _ => [], Nat.le_refl _, hle, rfl, .inr ⟨o, fps, ho, hb, hf, ?_⟩, fun j x hj hj2 => by omega⟩
   rw [hd2]
   exact hk
end
end Go.Proofs.YtbhoeanfnbkenaaGreatDoor
namespace Go.Proofs.YtbhoeanfnbkenaaGreatDoor
open Go.RowKit
theorem zfB (N i : Nat) (h : i < N) : ∃ r, List.range N = List.range i ++ i :: r ∧ ∀ k ∈ r, i < k ∧ k < N := by
 refine ⟨(List.range (N - i - 1)).map (i + 1 + ·), ?_, fun k hk => ?_⟩
 ·conv => lhs; rw [show N = i + 1 + (N - i - 1) by omega, List.range_add, List.range_succ]
  simp
 ·obtain ⟨j, hj, rfl⟩ := List.mem_map.1 hk
  have := List.mem_range.1 hj
  omega
section
variable {P : Program} {tt : Tys} {Hy : World → Prop} {X : World → (Nat → Prop) → (Nat → O) → (Nat → Value) → Prop} {cls : Nat → Nat} {B : Nat} {St : Nat → Prop} {Dp : List Deferred → Prop} {w0 : World}
theorem Rel.drew {s : S} {ι : Nat → Value} {a : Act} {w : World} (h : Rel Hy X B St w0 Dp s ι a w) : Rel Hy X B St w0 Dp s ι a { w with drawn := w.drawn + 1 } :=
 h.keep (w' := w.drew) ((Below.refl w.heap.size w).drew) none .junk undef (fun h => absurd rfl h)
theorem zlJ {ro : Option Nat} {n : Nat} (hT : Tys.ok P tt) {s : S} {ι : Nat → Value} {a : Act} {w : World} (h : Rel Hy X B St w0 Dp s ι a w) {Q : Exit → Act → World → Prop} {ops : Array Oper} {i : Nat} {o : Oper} (ho : ops[i]? = some o) {R W : List Nat} {K : S → Prop} {K' : Act → World → Prop} (hs : Sim Hy X B St w0 Dp K K')
  (hk : opK P Hy tt cls ops.toList o s K ∨ (∃ c, opK P Hy tt c ops.toList o s K) ∨ opD P Hy ops.toList o s R W K) : wpOpIn (FW ro) n P ops Q i K' a w := hk.elim (fun hk => zed hT h ho hs hk) (fun hk => hk.elim (fun ⟨_, hk⟩ => zed hT h ho hs hk) (fun hk => zhY h ho hs (zhZ hk)))
structure Run (P : Program) (Hy : World → Prop) (tt : Tys) (cls : Nat → Nat) (ops : Array Oper) (lo hi : Nat) (c : Nat → S) (up : Nat → List (Nat × O)) (y : Nat → A) (Rf Wf : Nat → List Nat) : Prop where
 nxt : ∀ j o, lo ≤ j → j < hi → ops[j]? = some o → c (j + 1) = upd (c j) (up j) o.dst (y j)
 wr : ∀ j o, lo ≤ j → j < hi → ops[j]? = some o → ∀ p ∈ up j, p.1 ∈ Wf j
 ok : ∀ j o, lo ≤ j → j < hi → ops[j]? = some o → ∀ s2 : S, AgrX ops.toList (Rf j) (Wf j) o (c j) s2 → zfz P Hy tt cls ops.toList o (Rf j) (Wf j) (up j) (y j) s2
 dis : ∀ j o k x, lo ≤ k → k < j → j < hi → ops[j]? = some o → ops[k]? = some x → Bef ops.toList k j ∨ (dis (Wf k) (Rf j ++ Wf j) = true ∧ dis (Wf j) (Rf k ++ Wf k) = true)
 lt : ∀ i o, ops[i]? = some o → ∀ k ∈ zbA o, k < i
 ap : ∀ j o k x, ops[j]? = some o → ops[k]? = some x → k < j → Bef ops.toList k j ∨ x.apart ops o = true
 lh : lo ≤ hi
 hz : hi ≤ ops.size
 edge : hi = ops.size ∨ zdW ops.toList hi = true
variable {ops : Array Oper} {lo hi : Nat} {c : Nat → S} {up : Nat → List (Nat × O)} {y : Nat → A} {Rf Wf : Nat → List Nat}
theorem zlK (hst : zdV ops.toList = true) : ∀ i o, ops[i]? = some o → (∀ k ∈ zbA o, k < i) ∧ ∀ k x, ops[k]? = some x → k < i → Bef ops.toList k i ∨ x.apart ops o = true := fun i o ho => by
 have l : ∀ {j : Nat} {o : Oper}, ops[j]? = some o → ops.toList[j]? = some o := fun h => by simpa using h
 have hi := (List.getElem?_eq_some_iff.1 (l ho)).1
 have := List.all_eq_true.1 hst i (List.mem_range.2 hi)
 rw [l ho] at this
 dsimp only at this
 rw [Bool.and_eq_true] at this
 refine ⟨fun k hk => of_decide_eq_true (List.all_eq_true.1 this.1 k hk), fun k x hx hk => ?_⟩
 have h4 := List.all_eq_true.1 this.2 k (List.mem_range.2 hk)
 rw [l hx] at h4
 dsimp only at h4
 rw [Bool.or_eq_true] at h4
 rcases h4 with h4 | h4
 ·exact .inl (zeA h4)
 ·right
  simpa using h4
theorem zlL {ops : List Oper} {k m i : Nat} (h : Bef ops m i) (hk : Bef ops k m) : Bef ops k i := by
 induction h with
 | one h hm => exact .step h hm hk
 | step h hm _ ih => exact .step h hm ih
theorem zia {ops : List Oper} {i : Nat} (h : zdW ops i = true) : (∀ j, j < i → Bef ops j i) ∧ ∀ k, k < ops.length → i < k → Bef ops i k := by
 unfold zdW at h
 rw [Bool.and_eq_true] at h
 refine ⟨fun j hj => zeA (List.all_eq_true.1 h.1 j (List.mem_range.2 hj)), fun k hk hik => ?_⟩
 have := List.all_eq_true.1 h.2 k (List.mem_range.2 hk)
 rw [Bool.or_eq_true, decide_eq_true_eq] at this
 exact zeA (this.resolve_left (by omega))
def U (ops : Array Oper) (up : Nat → List (Nat × O)) (y : Nat → A) (s : S) (k : Nat) : S := upd s (up k) ((ops[k]?).bind (·.dst)) (y k)
def stL (ops : Array Oper) (c0 : S) (up : Nat → List (Nat × O)) (y : Nat → A) (L : Nat → Bool) : S := ((List.range ops.size).filter L).foldl (U ops up y) c0
theorem zeD (t : Nat) : ∀ (l : List Nat) (s s2 : S), s.t t = s2.t t → (l.foldl (U ops up y) s).t t = ((l.filter fun k => decide ((ops[k]?).bind (·.dst) = some t)).foldl (U ops up y) s2).t t
 | [], s, s2, h => h
 | k :: l, s, s2, h => by
  rw [List.foldl_cons, List.filter_cons]
  by_cases hd : (ops[k]?).bind (·.dst) = some t
  ·rw [if_pos (by simpa using hd), List.foldl_cons]
   exact zeD t l _ _ (by unfold U; rw [zeC, zeC, if_pos hd, if_pos hd])
  ·rw [if_neg (by simpa using hd)]
   exact zeD t l _ _ (by unfold U; rw [zeC, if_neg hd]; exact h)
theorem zeE (id : Nat) : ∀ (l : List Nat) (s s2 : S), s.o id = s2.o id → (l.foldl (U ops up y) s).o id = ((l.filter fun k => decide (id ∈ (up k).map (·.1))).foldl (U ops up y) s2).o id
 | [], s, s2, h => h
 | k :: l, s, s2, h => by
  rw [List.foldl_cons, List.filter_cons]
  by_cases hd : id ∈ (up k).map (·.1)
  ·rw [if_pos (by simpa using hd), List.foldl_cons]
   exact zeE id l _ _ (by unfold U; rw [zcy, zcy]; exact zfA _ id _ _ h)
  ·rw [if_neg (by simpa using hd)]
   exact zeE id l _ _ (by unfold U; rw [zcy, zeB _ id _ hd]; exact h)
theorem zfC : ∀ (l : List Nat) (s : S), (l.foldl (U ops up y) s).n = s.n
 | [], _ => rfl
 | k :: l, s => by rw [List.foldl_cons, zfC l]; exact zh8 _ _ _ _
theorem zfD {l m : List Nat} (h : dis l m = true) {x : Nat} (hx : x ∈ l) : x ∉ m := by
 have := List.all_eq_true.1 h x hx
 simpa using this
def Clo (ops : Array Oper) (L : Nat → Bool) : Prop := ∀ i o, ops[i]? = some o → L i = true → ∀ k ∈ zbA o, L k = true
theorem Bef.clo {L : Nat → Bool} (hL : Clo ops L) {k i : Nat} (h : Bef ops.toList k i) : (∀ o, ops[i]? = some o → ∀ m ∈ zbA o, L m = true) → L k = true := by
 induction h with
 | one h hk => exact fun hi => hi _ (by simpa using h) _ hk
 | @step m i o h hm hk ih =>
  intro hi
  have hmL : L m = true := hi o (by simpa using h) m hm
  exact ih (fun o' ho' => hL m o' ho' hmL)
theorem Bef.lt {k i : Nat} (hlt : ∀ i o, ops[i]? = some o → ∀ k ∈ zbA o, k < i) (h : Bef ops.toList k i) : k < i := by
 induction h with
 | one h hk => exact hlt _ _ (by simpa using h) _ hk
 | step h hm hk ih => exact Nat.lt_trans ih (hlt _ _ (by simpa using h) _ hm)
def Lw (lo : Nat) (L : Nat → Bool) (k : Nat) : Bool := decide (lo ≤ k) && L k
theorem zb1 (lo : Nat) (L : Nat → Bool) (k : Nat) : Lw lo L k = (decide (lo ≤ k) && L k) := rfl
theorem zib (hr : Run P Hy tt cls ops lo hi c up y Rf Wf) : ∀ d, lo + d ≤ hi → c (lo + d) = stL ops (c lo) up y (Lw lo fun k => decide (k < lo + d))
 | 0, _ => by
  unfold stL
  rw [List.filter_eq_nil_iff.2 (fun k _ => by
   simp only [zb1]
   rw [Bool.and_eq_true, decide_eq_true_eq, decide_eq_true_eq]
   omega)]
  rfl
 | d + 1, h => by
  have ih := zib hr d (by omega)
  have hz := hr.hz
  have hlt : lo + d < ops.size := by omega
  have ho : ops[lo + d]? = some ops[lo + d] := Array.getElem?_eq_getElem hlt
  rw [← Nat.add_assoc, hr.nxt (lo + d) _ (by omega) (by omega) ho, ih]
  obtain ⟨r, hrg, hrl⟩ := zfB ops.size (lo + d) hlt
  unfold stL
  rw [hrg, List.filter_append, List.filter_append, List.filter_cons, List.filter_cons, if_neg (by simp [Lw]), if_pos (by simp [Lw])]
  have e1 : ∀ (q q' : Nat → Bool) (l : List Nat), (∀ k ∈ l, q k = q' k) → l.filter q = l.filter q' := fun q q' l h => List.filter_congr h
  have e2 : r.filter (Lw lo fun k => decide (k < lo + d)) = [] := List.filter_eq_nil_iff.2 (fun k hk => by
   have := (hrl k hk).1
   simp [Lw]
   omega)
  have e3 : r.filter (Lw lo fun k => decide (k < lo + d + 1)) = [] := List.filter_eq_nil_iff.2 (fun k hk => by
   have := (hrl k hk).1
   simp [Lw]
   omega)
  rw [e2, e3, e1 (Lw lo fun k => decide (k < lo + d)) (Lw lo fun k => decide (k < lo + d + 1)) (List.range (lo + d)) (fun k hk => by
   have := List.mem_range.1 hk
   simp only [zb1]
   rw [decide_eq_true (show k < lo + d by omega), decide_eq_true (show k < lo + d + 1 by omega)]), List.append_nil, List.foldl_append]
  show upd _ _ _ _ = upd _ (up (lo + d)) ((ops[lo + d]?).bind (·.dst)) (y (lo + d))
  rw [ho]
  rfl
theorem zeF (hr : Run P Hy tt cls ops lo hi c up y Rf Wf) (i : Nat) (h1 : lo ≤ i) (h2 : i ≤ hi) : c i = stL ops (c lo) up y (Lw lo fun k => decide (k < i)) := by
 have := zib hr (i - lo) (by omega)
 rw [show lo + (i - lo) = i by omega] at this
 exact this
theorem zic (L M : Nat → Bool) (q : Nat → Bool) (h : ∀ k, k < ops.size → q k = true → L k = M k) : ((List.range ops.size).filter L).filter q = ((List.range ops.size).filter M).filter q := by
 rw [List.filter_filter, List.filter_filter]
 refine List.filter_congr (fun k hk => ?_)
 cases hq : q k
 ·rfl
 ·rw [h k (List.mem_range.1 hk) hq]
theorem zlM {hi0 : Nat} (hr : Run P Hy tt cls ops lo hi0 c up y Rf Wf) {L : Nat → Bool} (hL : Clo ops L) (hhi : ∀ k, hi0 ≤ k → L k = false) {i : Nat} {o : Oper} (hi1 : lo ≤ i) (hi2 : i < hi0) (ho : ops[i]? = some o) (hi : L i = false) (hp : ∀ k ∈ zbA o, L k = true) :
  opK P Hy tt cls ops.toList o (stL ops (c lo) up y (Lw lo L)) (fun s' => s' = stL ops (c lo) up y (Lw lo fun k => decide (k = i) || L k)) ∨ (∃ c', opK P Hy tt c' ops.toList o (stL ops (c lo) up y (Lw lo L)) (fun s' => s' = stL ops (c lo) up y (Lw lo fun k => decide (k = i) || L k))) ∨ opD P Hy ops.toList o (stL ops (c lo) up y (Lw lo L)) (Rf i) (Wf i) (fun s' => s' = stL ops (c lo) up y (Lw lo fun k => decide (k = i) || L k)) := by
 have hlt : i < ops.size := (Array.getElem?_eq_some_iff.1 ho).1
 have hpo : ∀ o', ops[i]? = some o' → ∀ m ∈ zbA o', L m = true := fun o' ho' => by
  rw [ho] at ho'
  cases ho'
  exact hp
 have yes : ∀ k, Bef ops.toList k i → L k = true := fun k h => h.clo hL hpo
 have no : ∀ k, Bef ops.toList i k → L k = false := fun k h => by
  cases hk : L k
  ·rfl
  ·have : L i = true := by
    refine h.clo hL (fun o' ho' => hL k o' ho' hk)
   rw [hi] at this
   cases this
 have key : ∀ k, k < ops.size → (lo ≤ k → k ≠ i → Bef ops.toList k i ∨ Bef ops.toList i k) → Lw lo L k = Lw lo (fun k => decide (k < i)) k := fun k hk h => by
  simp only [zb1]
  by_cases hlk : lo ≤ k
  ·rw [decide_eq_true hlk, Bool.true_and, Bool.true_and]
   by_cases hki : k = i
   ·rw [hki, hi, decide_eq_false (Nat.lt_irrefl i)]
   ·rcases h hlk hki with h | h
    ·rw [yes k h, decide_eq_true (h.lt hr.lt)]
    ·rw [no k h, decide_eq_false (Nat.lt_asymm (h.lt hr.lt))]
  ·rw [decide_eq_false hlk, Bool.false_and, Bool.false_and]
 have kap : ∀ k, k < ops.size → ∀ t, (ops[k]?).bind (·.dst) = some t → t ∈ o.looksAt ops.toList.toArray → Lw lo L k = Lw lo (fun k => decide (k < i)) k := fun k hk t hq ht => by
  have hkk : ops[k]? = some ops[k] := Array.getElem?_eq_getElem hk
  rw [hkk] at hq
  refine key k hk fun _ hki => ?_
  rcases Nat.lt_or_gt_of_ne hki with h | h
  ·rcases hr.ap i o k _ ho hkk h with h | h
   ·exact .inl h
   ·exact absurd ht ((Oper.apart_spec h).1 t hq)
  ·rcases hr.ap k _ i o hkk ho h with h | h
   ·exact .inr h
   ·exact absurd ht ((Oper.apart_spec h).2.2 t hq)
 refine hr.ok i o hi1 hi2 ho _ ⟨?_, fun t ht => ?_, fun id hid => ?_⟩ (fun s' => s' = stL ops (c lo) up y (Lw lo fun k => decide (k = i) || L k)) ?_
 ·rw [zeF hr i hi1 (by omega)]
  unfold stL
  rw [zfC, zfC]
 ·rw [zeF hr i hi1 (by omega)]
  unfold stL
  rw [zeD t _ _ (c lo) rfl, zeD t ((List.range ops.size).filter (Lw lo fun k => decide (k < i))) _ (c lo) rfl]
  rw [zic (Lw lo L) (Lw lo fun k => decide (k < i)) _ (fun k hk hq => kap k hk t (of_decide_eq_true hq) ht)]
 ·rw [zeF hr i hi1 (by omega)]
  unfold stL
  rw [zeE id _ _ (c lo) rfl, zeE id ((List.range ops.size).filter (Lw lo fun k => decide (k < i))) _ (c lo) rfl]
  rw [zic (Lw lo L) (Lw lo fun k => decide (k < i)) _ (fun k hk hq => ?_)]
  have hq : id ∈ (up k).map (·.1) := of_decide_eq_true hq
  have hkk : ops[k]? = some ops[k] := Array.getElem?_eq_getElem hk
  have hid2 : id ∈ Rf i ++ Wf i := List.mem_append.2 hid
  by_cases hkh : k < hi0
  ·refine key k hk fun hlk hki => ?_
   have hw : id ∈ Wf k := by
    obtain ⟨p, hp2, rfl⟩ := List.mem_map.1 hq
    exact hr.wr k _ hlk hkh hkk p hp2
   rcases Nat.lt_or_gt_of_ne hki with h | h
   ·rcases hr.dis i o k _ hlk h hi2 ho hkk with h | ⟨h, _⟩
    ·exact .inl h
    ·exact absurd hid2 (zfD h hw)
   ·rcases hr.dis k _ i o hi1 h hkh hkk ho with h | ⟨_, h⟩
    ·exact .inr h
    ·exact absurd hid2 (zfD h hw)
  ·simp only [zb1]
   rw [hhi k (by omega), decide_eq_false (show ¬ k < i by omega)]
 ·obtain ⟨r, hrg, hrl⟩ := zfB ops.size i hlt
  unfold stL
  have l0 : Lw lo L i = false := by simp only [zb1]; rw [hi, Bool.and_false]
  have l1 : Lw lo (fun k => decide (k = i) || L k) i = true := by simp [zb1, hi1]
  have ln : ∀ k, k ≠ i → Lw lo (fun k => decide (k = i) || L k) k = Lw lo L k := fun k hk => by simp only [zb1]; rw [decide_eq_false hk, Bool.false_or]
  rw [hrg, List.filter_append, List.filter_append, List.filter_cons, List.filter_cons, l0, l1]
  simp only [if_true, Bool.false_eq_true, if_false]
  have e1 : (List.range i).filter (Lw lo fun k => decide (k = i) || L k) = (List.range i).filter (Lw lo L) := List.filter_congr (fun k hk => ln k (Nat.ne_of_lt (List.mem_range.1 hk)))
  have e2 : r.filter (Lw lo fun k => decide (k = i) || L k) = r.filter (Lw lo L) := List.filter_congr (fun k hk => ln k (Nat.ne_of_gt (hrl k hk).1))
  rw [e1, e2, List.foldl_append, List.foldl_append, List.foldl_cons]
  generalize ((List.range i).filter (Lw lo L)).foldl (U ops up y) (c lo) = s1
  have com : ∀ (l : List Nat), (∀ k ∈ l, i < k ∧ k < ops.size ∧ L k = true) → ∀ s1 : S, upd (l.foldl (U ops up y) s1) (up i) o.dst (y i) = l.foldl (U ops up y) (U ops up y s1 i) := by
   intro l
   induction l with
   | nil =>
    intro _ s1
    show _ = upd s1 (up i) ((ops[i]?).bind (·.dst)) (y i)
    rw [ho]
    rfl
   | cons k l ih =>
    intro hl s1
    rw [List.foldl_cons, List.foldl_cons, ih (fun k hk => hl k (List.mem_cons_of_mem _ hk))]
    congr 1
    obtain ⟨h1, h2, h3⟩ := hl k List.mem_cons_self
    have hkk : ops[k]? = some ops[k] := Array.getElem?_eq_getElem h2
    have hkh : k < hi0 := Nat.lt_of_not_le fun e => by
     rw [hhi k e] at h3
     cases h3
    have nb : ¬ Bef ops.toList i k := fun h => by
     rw [no k h] at h3
     cases h3
    have hap := (hr.ap k _ i o hkk ho h1).resolve_left nb
    have hds := (hr.dis k _ i o hi1 h1 hkh hkk ho).resolve_left nb
    unfold U
    rw [ho, hkk]
    refine (zlI s1 (up i) (up k) o.dst ops[k].dst (y i) (y k) (fun t ht => (Oper.apart_spec hap).2.1 t ht) (fun id hid hid2 => ?_)).symm
    have w1 : id ∈ Wf i := by
     obtain ⟨p, hp2, rfl⟩ := List.mem_map.1 hid
     exact hr.wr i _ hi1 hi2 ho p hp2
    have w2 : id ∈ Wf k := by
     obtain ⟨p, hp2, rfl⟩ := List.mem_map.1 hid2
     exact hr.wr k _ (by omega) hkh hkk p hp2
    exact zfD hds.1 w1 (List.mem_append_right _ w2)
  exact com (r.filter (Lw lo L)) (fun k hk => by
   obtain ⟨h1, h2⟩ := List.mem_filter.1 hk
   simp only [zb1] at h2
   rw [Bool.and_eq_true] at h2
   exact ⟨(hrl k h1).1, (hrl k h1).2, h2.2⟩) s1
def lst (listed : Array Bool) (k : Nat) : Bool := listed.getD k false
def zce (ops : Array Oper) (listed : Array Bool) : Nat := ((List.range ops.size).filter fun k => !lst listed k).length
theorem zdi {listed : Array Bool} (hz : listed.size = ops.size) {i : Nat} : i ∈ Region.ready .any ops listed ↔ i < ops.size ∧ lst listed i = false ∧ ∀ o, ops[i]? = some o → ∀ k ∈ zbA o, lst listed k = true := by
 unfold Region.ready
 rw [List.mem_filter, List.mem_range]
 refine and_congr_right fun hlt => ?_
 have hii : ops[i]? = some ops[i] := Array.getElem?_eq_getElem hlt
 have hkl : i < listed.size := by omega
 rw [Bool.and_eq_true, hii]
 simp only [Option.map_some, Option.getD_some, Array.getD_eq_getD_getElem?, Array.getElem?_eq_getElem hkl]
 refine and_congr ?_ ?_
 ·unfold lst
  simp only [Array.getD_eq_getD_getElem?, Array.getElem?_eq_getElem hkl, Option.getD_some]
  cases listed[i] <;> simp
 ·rw [Array.all_eq_true_iff_forall_mem]
  constructor
  ·rintro h3 o e k hk
   cases e
   obtain ⟨e, he, rfl⟩ := List.mem_map.1 hk
   obtain ⟨he1, he2⟩ := List.mem_filter.1 he
   have := h3 e (by simpa using he1)
   rw [he2] at this
   simpa [lst] using this
  ·intro h e hem
   rw [Bool.or_eq_true]
   by_cases hb : Region.binds .any e = true
   ·right
    have := h _ rfl e.on (List.mem_map.2 ⟨e, List.mem_filter.2 ⟨by simpa using hem, hb⟩, rfl⟩)
    simpa [lst] using this
   ·left
    simpa using hb
theorem zcz {listed : Array Bool} (hz : listed.size = ops.size) {i : Nat} (hlt : i < ops.size) (k : Nat) : lst (listed.setIfInBounds i true) k = (decide (k = i) || lst listed k) := by
 unfold lst
 simp only [Array.getD_eq_getD_getElem?, Array.getElem?_setIfInBounds]
 by_cases hk : i = k
 ·subst hk
  simp [hz, hlt]
 ·rw [if_neg hk, decide_eq_false (fun e => hk e.symm), Bool.false_or]
theorem zid {listed : Array Bool} (hz : listed.size = ops.size) {i fuel : Nat} (hlt : i < ops.size) (hli : lst listed i = false) (hf : zce ops listed ≤ fuel + 1) : zce ops (listed.setIfInBounds i true) ≤ fuel := by
 unfold zce at hf ⊢
 obtain ⟨r, hrg, hrl⟩ := zfB ops.size i hlt
 rw [hrg, List.filter_append, List.filter_cons] at hf ⊢
 rw [hli] at hf
 rw [zcz hz hlt i]
 simp only [decide_true, Bool.true_or, Bool.not_true, Bool.not_false, Bool.false_eq_true, if_false, if_true, List.length_append, List.length_cons] at hf ⊢
 rw [List.filter_congr (l := List.range i) (q := fun k => !lst listed k) (fun k hk => by rw [zcz hz hlt, decide_eq_false (Nat.ne_of_lt (List.mem_range.1 hk)), Bool.false_or]), List.filter_congr (l := r) (q := fun k => !lst listed k) (fun k hk => by rw [zcz hz hlt, decide_eq_false (Nat.ne_of_gt (hrl k hk).1), Bool.false_or])]
 omega
theorem zie {listed : Array Bool} {k : Nat} (hk : k < ops.size) (hl : lst listed k = false) : 0 < zce ops listed := List.length_pos_of_mem (List.mem_filter.2 ⟨List.mem_range.2 hk, by rw [hl]; rfl⟩)
theorem zlN {listed : Array Bool} (hz : listed.size = ops.size) (hc : Clo ops (lst listed)) {i : Nat} {o : Oper} (ho : ops[i]? = some o) (hp : ∀ k ∈ zbA o, lst listed k = true) : Clo ops (lst (listed.setIfInBounds i true)) := fun k x hx hk m hm => by
 have hlt := (Array.getElem?_eq_some_iff.1 ho).1
 rw [zcz hz hlt] at hk ⊢
 rw [Bool.or_eq_true] at hk ⊢
 rcases hk with hk | hk
 ·have := of_decide_eq_true hk
  subst this
  rw [ho] at hx
  cases hx
  exact .inr (hp m hm)
 ·exact .inr (hc k x hx hk m hm)
theorem zlO {ro : Option Nat} {n : Nat} (hT : Tys.ok P tt) (hr : Run P Hy tt cls ops lo hi c up y Rf Wf) {Q : Exit → Act → World → Prop}
  (hgo : ∀ (fuel : Nat) (listed : Array Bool) (ι : Nat → Value) (a : Act) (w : World), listed.size = ops.size → (∀ k, lst listed k = decide (k < hi)) → zce ops listed ≤ fuel → Rel Hy X B St w0 Dp (c hi) ι a w → wpAnyIn (FW ro) n P .any ops Q fuel listed a w) :
  ∀ (fuel : Nat) (listed : Array Bool) {ι : Nat → Value} {a : Act} {w : World}, listed.size = ops.size → Clo ops (lst listed) → (∀ k, k < lo → lst listed k = true) → (∀ k, hi ≤ k → lst listed k = false) → zce ops listed ≤ fuel → Rel Hy X B St w0 Dp (stL ops (c lo) up y (Lw lo (lst listed))) ι a w → wpAnyIn (FW ro) n P .any ops Q fuel listed a w := by
 have fin : ∀ (fuel : Nat) (listed : Array Bool) {ι : Nat → Value} {a : Act} {w : World}, listed.size = ops.size → (∀ k, hi ≤ k → lst listed k = false) → (∀ k, k < hi → lst listed k = true) → zce ops listed ≤ fuel → Rel Hy X B St w0 Dp (stL ops (c lo) up y (Lw lo (lst listed))) ι a w → wpAnyIn (FW ro) n P .any ops Q fuel listed a w := fun fuel listed ι a w hz h1 h2 hf h => by
  have e : ∀ k, lst listed k = decide (k < hi) := fun k => by
   by_cases hk : k < hi
   ·rw [h2 k hk, decide_eq_true hk]
   ·rw [h1 k (by omega), decide_eq_false hk]
  refine hgo fuel listed ι a w hz e hf ?_
  have : stL ops (c lo) up y (Lw lo (lst listed)) = c hi := by
   rw [zeF hr hi hr.lh (Nat.le_refl _)]
   unfold stL
   refine congrArg (fun l => List.foldl (U ops up y) (c lo) l) (List.filter_congr fun k _ => ?_)
   simp only [zb1]
   rw [e]
  rw [← this]
  exact h
 intro fuel
 induction fuel with
 | zero =>
  intro listed ι a w hz hc hlo hhi hf h
  refine fin 0 listed hz hhi (fun k hk => ?_) hf h
  cases hl : lst listed k
  ·have hz2 := hr.hz
   have := zie (ops := ops) (by omega : k < ops.size) hl
   omega
  ·rfl
 | succ fuel ih =>
  intro listed ι a w hz hc hlo hhi hf h
  by_cases hall : ∀ k, k < hi → lst listed k = true
  ·exact fin _ listed hz hhi hall hf h
  have hz2 := hr.hz
  have inwin : ∀ i ∈ Region.ready .any ops listed, i < hi := fun i hi' => by
   obtain ⟨r1, r2, r3⟩ := (zdi hz).1 hi'
   refine Nat.lt_of_not_le fun hge => hall fun k hk => ?_
   rcases hr.edge with he | he
   ·omega
   ·obtain ⟨b1, b2⟩ := zia he
    have : Bef ops.toList k i := by
     rcases Nat.lt_or_eq_of_le hge with hlt | rfl
     ·exact zlL (b2 i (by simpa using r1) hlt) (b1 k hk)
     ·exact b1 k hk
    exact this.clo hc r3
  refine ⟨fun he => ?_, fun i hi' => ?_⟩
  ·exfalso
   apply hall
   intro k
   induction k using Nat.strongRecOn with
   | _ k ihk =>
    intro hk
    cases hl : lst listed k
    ·exfalso
     have : k ∈ Region.ready .any ops listed := (zdi hz).2 ⟨by omega, hl, fun o ho m hm => by
      have hlt := hr.lt k _ ho _ hm
      exact ihk m hlt (by omega)⟩
     rw [he] at this
     cases this
    ·rfl
  ·have hwin := inwin i hi'
   obtain ⟨r1, r2, r3⟩ := (zdi hz).1 hi'
   have hii : ops[i]? = some ops[i] := Array.getElem?_eq_getElem r1
   have hil : lo ≤ i := Nat.le_of_not_lt fun e => by
    rw [hlo i e] at r2
    cases r2
   refine zlJ hT h hii (K := fun s' => s' = stL ops (c lo) up y (Lw lo fun k => decide (k = i) || lst listed k)) (fun s' ι' a' w' h' e => ?_) (zlM hr hc hhi hil hwin hii r2 (r3 _ hii))
   subst e
   refine ih (listed.setIfInBounds i true) (ι := ι') (by simpa using hz) (zlN hz hc hii (r3 _ hii)) (fun k hk => ?_) (fun k hk => ?_) (zid hz r1 r2 hf) ?_
   ·rw [zcz hz r1, hlo k hk, Bool.or_true]
   ·rw [zcz hz r1, hhi k hk, decide_eq_false (by omega)]
    rfl
   ·have : (lst (listed.setIfInBounds i true)) = fun k => decide (k = i) || lst listed k := funext (zcz hz r1)
    rw [this]
    exact h'
theorem zlP {ro : Option Nat} {n : Nat} {E : Env} (hT : Tys.ok P tt) {Q : Exit → Act → World → Prop} (hY : YH P Hy X B St w0 Dp ro n E) (hP : zdh Hy X B St w0 Dp E Q) {K : S → Prop} (hs : Sim Hy X B St w0 Dp K (Q .normal)) (hst : zdV ops.toList = true) :
  ∀ (m i0 : Nat) (s : S) (fps : List (List Nat × List Nat)), m = ops.size - i0 → i0 ≤ ops.size → fps.length = i0 → zY P Hy tt cls E ops.toList (ops.toList.drop i0) i0 s fps K →
  ∀ (fuel : Nat) (listed : Array Bool) (ι : Nat → Value) (a : Act) (w : World), listed.size = ops.size → (∀ k, lst listed k = decide (k < i0)) → zce ops listed ≤ fuel → Rel Hy X B St w0 Dp s ι a w → wpAnyIn (FW ro) n P .any ops Q fuel listed a w := by
 intro m
 induction m using Nat.strongRecOn with
 | _ m ih =>
  intro i0 s fps hm hle hfps hk fuel listed ι a w hz hls hf h
  have hsg := zlK hst
  have l : ∀ {j : Nat} {o : Oper}, ops[j]? = some o → ops.toList[j]? = some o := fun h => by simpa using h
  obtain ⟨hi, c, up, y, Rf, Wf, g0, g1, rfl, g2, g3⟩ := zh9 ops.toList _ i0 s fps K (by simpa using hle) rfl hfps hk
  have hz2 : hi ≤ ops.size := by simpa using g1
  have hr : Run P Hy tt cls ops i0 hi c up y Rf Wf := by
   refine ⟨fun j o h1 h2 ho => (g3 j o h1 h2 (l ho)).1, fun j o h1 h2 ho => (g3 j o h1 h2 (l ho)).2.1, fun j o h1 h2 ho => (g3 j o h1 h2 (l ho)).2.2.1, fun j o k x h1 h2 h3 ho hx => ?_, fun i o ho => (hsg i o ho).1, fun j o k x ho hx hk => (hsg j o ho).2 k x hx hk, g0, hz2, ?_⟩
   ·rcases (g3 j o (by omega) h3 (l ho)).2.2.2 k h2 with h | ⟨_, h⟩
    ·exact .inl h
    ·exact .inr (h h1 x (l hx))
   ·rcases g2 with ⟨e, _⟩ | ⟨o, fps', e1, e2, _⟩
    ·exact .inl (by simpa using e)
    ·exact .inr e2
  have clo : Clo ops (lst listed) := fun i o ho hl k hk => by
   rw [hls] at hl ⊢
   have := (hsg i o ho).1 k hk
   have := of_decide_eq_true hl
   exact decide_eq_true (by omega)
  refine zlO (Hy := Hy) (X := X) (B := B) (St := St) (Dp := Dp) (w0 := w0) (ι := ι) hT hr (fun fuel listed ι a w hz hls hf h => ?_) fuel listed hz clo (fun k hk => by rw [hls, decide_eq_true hk]) (fun k hk => by rw [hls, decide_eq_false (by omega)]) hf ?_
  ·rcases g2 with ⟨e, hK⟩ | ⟨o, fps', ho, hb, hfl, hstep⟩
   ·have he : hi = ops.size := by simpa using e
    have hre : Region.ready .any ops listed = [] := by
     rw [List.eq_nil_iff_forall_not_mem]
     intro k hk
     obtain ⟨r1, r2, _⟩ := (zdi hz).1 hk
     rw [hls, decide_eq_true (by omega)] at r2
     cases r2
    cases fuel with
    | zero => exact ⟨hre, hs _ ι a w h hK⟩
    | succ fuel =>
     refine ⟨fun _ => hs _ ι a w h hK, fun i hi' => ?_⟩
     rw [hre] at hi'
     cases hi'
   ·have ho2 : ops[hi]? = some o := by simpa using ho
    have hlt := (Array.getElem?_eq_some_iff.1 ho2).1
    obtain ⟨b1, b2⟩ := zia hb
    have hnl : lst listed hi = false := by rw [hls, decide_eq_false (Nat.lt_irrefl _)]
    have hrd : hi ∈ Region.ready .any ops listed := (zdi hz).2 ⟨hlt, hnl, fun o' ho' k hk => by
     rw [ho2] at ho'
     cases ho'
     rw [hls]
     exact decide_eq_true ((hsg hi o ho2).1 k hk)⟩
    have clo2 : Clo ops (lst listed) := fun i o ho hl k hk => by
     rw [hls] at hl ⊢
     have := (hsg i o ho).1 k hk
     have := of_decide_eq_true hl
     exact decide_eq_true (by omega)
    cases fuel with
    | zero =>
     have := zie hlt hnl
     omega
    | succ fuel =>
     refine ⟨fun e => (by rw [e] at hrd; cases hrd), fun i hi' => ?_⟩
     obtain ⟨r1, r2, r3⟩ := (zdi hz).1 hi'
     have hie : i = hi := by
      rcases Nat.lt_trichotomy i hi with e | e | e
      ·rw [hls, decide_eq_true e] at r2
       cases r2
      ·exact e
      ·have := (b2 i (by simpa using r1) e).clo clo2 r3
       rw [hnl] at this
       cases this
     subst hie
     refine zh2 hT hY hP h ho2 (fun s' ι' a' w' h' hk' => ?_) hstep
     refine ih (ops.size - (i + 1)) (by omega) (i + 1) s' (fps' ++ [([], [])]) rfl (by omega) (by simp [hfl]) hk' fuel (listed.setIfInBounds i true) ι' a' w' (by simpa using hz) (fun k => ?_) (zid hz r1 r2 hf) h'
     rw [zcz hz r1, hls]
     by_cases hk : k < i + 1
     ·rw [decide_eq_true hk]
      rcases Nat.lt_or_eq_of_le (Nat.lt_succ_iff.1 hk) with h | rfl
      ·rw [decide_eq_true h, Bool.or_true]
      ·rw [decide_eq_true rfl, Bool.true_or]
     ·rw [decide_eq_false hk, decide_eq_false (by omega), decide_eq_false (by omega)]
      rfl
  ·have : stL ops (c i0) up y (Lw i0 (lst listed)) = c i0 := by
    unfold stL
    rw [List.filter_eq_nil_iff.2 (fun k _ => by
     simp only [zb1]
     rw [hls, Bool.and_eq_true, decide_eq_true_eq, decide_eq_true_eq]
     omega)]
    rfl
   rw [this]
   exact h
theorem zlQ {ro : Option Nat} {n : Nat} {E : Env} (hT : Tys.ok P tt) (hM : P.follows .mixedOrders = true) {Q : Exit → Act → World → Prop} (hY : YH P Hy X B St w0 Dp ro n E) (hP : zdh Hy X B St w0 Dp E Q) {K : S → Prop} {s : S} {ι : Nat → Value} {a : Act} {w : World} (id : Nat) (h : Rel Hy X B St w0 Dp s ι a w) (hs : Sim Hy X B St w0 Dp K (Q .normal))
  (hst : zdV ops.toList = true) (hk : zY P Hy tt cls E ops.toList ops.toList 0 s [] K) : (Code.region id ops true).wpIn (FW ro) n P Q a w := by
 refine wpIn_region_any hM ?_
 have hl : ∀ k, lst (Array.replicate ops.size false) k = decide (k < 0) := fun k => by
  unfold lst
  simp only [Array.getD_eq_getD_getElem?, Array.getElem?_replicate]
  split <;> rfl
 refine zlP hT hY hP hs hst _ 0 s [] rfl (Nat.zero_le _) rfl hk ops.size _ ι a _ (by simp) hl ?_ h.drew
 unfold zce
 have := List.length_filter_le (fun k => !lst (Array.replicate ops.size false) k) (List.range ops.size)
 rwa [List.length_range] at this
end
end Go.Proofs.YtbhoeanfnbkenaaGreatDoor
