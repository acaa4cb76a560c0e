/- The engine, 16: walking. -/
import Derived.Test.YtfflfmpkjcomgaaDoorEngR
namespace Go.Proofs.YtfflfmpkjcomgaaDoor
open Go.RowKit

def lookA : List (Nat × A) → Nat → A → A
  | [], _, d => d
  | p :: l, j, d => if j = p.1 then p.2 else lookA l j d
def nf (n : Nat) (F : Nat → A) (G : Nat → O) (ts : List (Nat × A)) (os : List (Nat × O)) : S := ⟨n, fun j => lookA ts j (F j), fun j => lookO os j (G j)⟩
def AllT (s : S) : List (Nat × A) → Prop
  | [] => True
  | p :: l => s.t p.1 = p.2 ∧ AllT s l
def AllO (s : S) : List (Nat × O) → Prop
  | [] => True
  | p :: l => s.o p.1 = p.2 ∧ AllO s l
theorem lookA_self {s : S} : ∀ {l : List (Nat × A)}, AllT s l → ∀ j, lookA l j (s.t j) = s.t j
  | [], _, _ => rfl
  | p :: l, h, j => by
    unfold lookA
    split
    · rename_i e
      rw [e, h.1]
    · exact lookA_self h.2 j
theorem lookO_self {s : S} : ∀ {l : List (Nat × O)}, AllO s l → ∀ j, lookO l j (s.o j) = s.o j
  | [], _, _ => rfl
  | p :: l, h, j => by
    unfold lookO
    split
    · rename_i e
      rw [e, h.1]
    · exact lookO_self h.2 j
theorem nf_of {n : Nat} {s : S} {ts : List (Nat × A)} {os : List (Nat × O)} (hn : s.n = n) (ht : AllT s ts) (ho : AllO s os) : s = nf n s.t s.o ts os := by
  subst hn
  exact S.ext3 rfl (fun j => (lookA_self ht j).symm) (fun j => (lookO_self ho j).symm)

section
variable {P : Program} {Hy : World → Prop} {tt : Tys} {cls : Nat → Nat} {s s' : S} {Q : Exit → S → Prop} {top : Bool} {E : Env}
/-- what follows -/
def seqQ (N : S → Prop) (Q : Exit → S → Prop) : Exit → S → Prop := fun e s' => match e with
  | .normal => ∃ s1, StlS s' s1 ∧ N s1
  | e => Q e s'
def blkQ (id : Nat) (Q : Exit → S → Prop) : Exit → S → Prop := fun e s' => match e with
  | .exit id' => if id' = id then Q .normal s' else Q (.exit id') s'
  | e => Q e s'
def lpQ (I : Nat → S → Prop) (m : Nat) (Q : Exit → S → Prop) : Exit → S → Prop := fun e s' => match e with
  | .normal => ∃ m', m' < m ∧ I m' s'
  | e => Q e s'
theorem c_seq {x y : Code} (h : cwp P Hy tt cls E top x (seqQ (cwp P Hy tt cls E top y Q) Q) s) : cwp P Hy tt cls E top (.seq x y) Q s := h
theorem c_block {id : Nat} {x : Code} (h : cwp P Hy tt cls E top x (blkQ id Q) s) : cwp P Hy tt cls E top (.block id x) Q s := h
theorem c_loop {x : Code} (I : Nat → S → Prop) (n : Nat) (h0 : I n s) (h : ∀ m s, I m s → cwp P Hy tt cls E top x (lpQ I m Q) s) : cwp P Hy tt cls E top (.loop x) Q s := ⟨I, n, h0, h⟩
theorem c_cond {c : Operand} {x y : Code} (q : Bool) (hc : s.ev c = .t (.b q)) (h1 : q = true → cwp P Hy tt cls E top x Q s) (h2 : q = false → cwp P Hy tt cls E top y Q s) : cwp P Hy tt cls E top (.cond c x y) Q s := by
  unfold cwp
  rw [hc]
  exact ⟨h1, h2⟩
theorem c_skip (h : Q .normal s) : cwp P Hy tt cls E top .skip Q s := h
theorem c_exit {id : Nat} (h : Q (.exit id) s) : cwp P Hy tt cls E top (.exit id) Q s := h
theorem c_ret (h : Q .ret s) : cwp P Hy tt cls E top .ret Q s := h
theorem c_reg' {id : Nat} {ops : Array Oper} {l : List Oper} (hl : ops.toList = l) (h : ∀ (K : S → Prop) (E' : Env), (∀ s', Q .normal s' → K s') → (E'.l = E.l ∧ E'.y = E.y ∧ ∀ s', Q (.panic []) s' → E'.p s') → runM P Hy tt cls E' l l s K) : cwp P Hy tt cls E top (.region id ops false) Q s := by
  subst hl
  exact h _ ⟨E.l, E.y, Q (.panic [])⟩ (fun _ h => h) ⟨rfl, rfl, fun _ h => h⟩
theorem c_draw' {id : Nat} {ops : Array Oper} {l : List Oper} (hl : ops.toList = l) (hs : stat l = true) (h : ∀ (K : S → Prop) (E' : Env), (∀ s', Q .normal s' → K s') → (E'.l = E.l ∧ E'.y = E.y ∧ ∀ s', Q (.panic []) s' → E'.p s') → runD P Hy tt cls E' l l 0 s [] K) : cwp P Hy tt cls E top (.region id ops true) Q s := by
  subst hl
  exact ⟨hs, h _ ⟨E.l, E.y, Q (.panic [])⟩ (fun _ h => h) ⟨rfl, rfl, fun _ h => h⟩⟩
variable {ops os : List Oper} {o : Oper} {K : S → Prop}
theorem r_op (h : ∀ K' : S → Prop, (∀ s', runM P Hy tt cls E ops os s' K → K' s') → opK P Hy tt cls ops o s K') : runM P Hy tt cls E ops (o :: os) s K := .inl (h _ (fun _ h => h))
theorem r_call (h : ∀ K' : S → Prop, (∀ s', runM P Hy tt cls E ops os s' K → K' s') → opM P Hy ops o s K') : runM P Hy tt cls E ops (o :: os) s K := .inr (.inl (h _ (fun _ h => h)))
theorem r_callF (h : ∀ K' : S → Prop, (∀ s', runM P Hy tt cls E ops os s' K → K' s') → opF P Hy ops o s K') : runM P Hy tt cls E ops (o :: os) s K := .inr (.inr (.inl (h _ (fun _ h => h))))
theorem r_nilE {o : Oper} {os ops : List Oper} {K : S → Prop} (h : ∀ K' : S → Prop, (∀ s', runM P Hy tt cls E ops os s' K → K' s') → opE tt o s K') : runM P Hy tt cls E ops (o :: os) s K := .inr (.inr (.inr (.inl (h _ (fun _ h => h)))))
theorem r_nil (h : K s) : runM P Hy tt cls E ops [] s K := h
theorem d_op {i : Nat} {fps : List (List Nat × List Nat)} (hok : okAt ((bfs ops).getD i 0) (rdO o s) (wrO cls o s) fps = true) (h : ∀ K' : S → Prop, (∀ s', runD P Hy tt cls E ops os (i + 1) s' (fps ++ [(rdO o s, wrO cls o s)]) K → K' s') → opK P Hy tt cls ops o s K') : runD P Hy tt cls E ops (o :: os) i s fps K := .inl ⟨_, _, hok, .inl ⟨rfl, rfl, h _ (fun _ h => h)⟩⟩
/-- one operation, by its result and its text -/
def op2 (P : Program) (Hy : World → Prop) (tt : Tys) (cls : Nat → Nat) (dst : Option Nat) (op : Op) (s : S) (K : S → Prop) : Prop := match isE op with
  | true => Ek P Hy tt cls dst op s K
  | false => Pk tt op s fun y => K (s.put dst y)
def guardK (x : A) (want : Bool) (k1 k2 : Prop) : Prop := match x with
  | .t (.b q) => match q == want with
    | true => k1
    | false => k2
  | .tup [] => k2
  | _ => False
theorem guard_ok {t : Nat} {dst : Option Nat} {op : Op} {type : TypeId} {pos : String} {after : Array Edge} {g : Nat} {want : Bool} {K' : S → Prop} (hg : (ops[g]?).bind (·.dst) = some t) (h : t < s.n ∧ guardK (s.t t) want (op2 P Hy tt cls dst op s K') (K' (s.put dst (.tup [])))) : opK P Hy tt cls ops ⟨dst, op, type, pos, after, some (g, want)⟩ s K' := by
  unfold opK
  simp only [hg]
  refine ⟨h.1, ?_⟩
  have h := h.2
  unfold guardK at h
  split at h
  · rename_i q e
    rw [e]
    simp only
    cases q <;> cases want <;> first | exact ⟨fun _ => h, fun e => (by cases e)⟩ | exact ⟨fun e => (by cases e), fun _ => h⟩
  · rename_i e
    rw [e]
    exact h
  · exact h.elim
theorem r_opN {dst : Option Nat} {op : Op} {type : TypeId} {pos : String} {after : Array Edge} (h : ∀ K' : S → Prop, (∀ s', runM P Hy tt cls E ops os s' K → K' s') → op2 P Hy tt cls dst op s K') : runM P Hy tt cls E ops (⟨dst, op, type, pos, after, none⟩ :: os) s K := r_op (fun K' hK' => h K' hK')
theorem r_opG {t : Nat} {dst : Option Nat} {op : Op} {type : TypeId} {pos : String} {after : Array Edge} {g : Nat} {want : Bool} (hg : (ops[g]?).bind (·.dst) = some t) (h : ∀ K' : S → Prop, (∀ s', runM P Hy tt cls E ops os s' K → K' s') → t < s.n ∧ guardK (s.t t) want (op2 P Hy tt cls dst op s K') (K' (s.put dst (.tup [])))) :
    runM P Hy tt cls E ops (⟨dst, op, type, pos, after, some (g, want)⟩ :: os) s K := r_op (fun K' hK' => guard_ok hg (h K' hK'))
theorem d_opN {i : Nat} {fps : List (List Nat × List Nat)} {dst : Option Nat} {op : Op} {type : TypeId} {pos : String} {after : Array Edge} (hok : okAt ((bfs ops).getD i 0) (rdO ⟨dst, op, type, pos, after, none⟩ s) (wrO cls ⟨dst, op, type, pos, after, none⟩ s) fps = true)
    (h : ∀ K' : S → Prop, (∀ s', runD P Hy tt cls E ops os (i + 1) s' (fps ++ [(rdO ⟨dst, op, type, pos, after, none⟩ s, wrO cls ⟨dst, op, type, pos, after, none⟩ s)]) K → K' s') → op2 P Hy tt cls dst op s K') : runD P Hy tt cls E ops (⟨dst, op, type, pos, after, none⟩ :: os) i s fps K := d_op hok (fun K' hK' => h K' hK')
theorem d_opG {i t : Nat} {fps : List (List Nat × List Nat)} {dst : Option Nat} {op : Op} {type : TypeId} {pos : String} {after : Array Edge} {g : Nat} {want : Bool} (hok : okAt ((bfs ops).getD i 0) (rdO ⟨dst, op, type, pos, after, some (g, want)⟩ s) (wrO cls ⟨dst, op, type, pos, after, some (g, want)⟩ s) fps = true)
    (hg : (ops[g]?).bind (·.dst) = some t)
    (h : ∀ K' : S → Prop, (∀ s', runD P Hy tt cls E ops os (i + 1) s' (fps ++ [(rdO ⟨dst, op, type, pos, after, some (g, want)⟩ s, wrO cls ⟨dst, op, type, pos, after, some (g, want)⟩ s)]) K → K' s') → t < s.n ∧ guardK (s.t t) want (op2 P Hy tt cls dst op s K') (K' (s.put dst (.tup [])))) :
    runD P Hy tt cls E ops (⟨dst, op, type, pos, after, some (g, want)⟩ :: os) i s fps K := d_op hok (fun K' hK' => guard_ok hg (h K' hK'))
theorem d_call {i : Nat} {fps : List (List Nat × List Nat)} {o : Oper} {os ops : List Oper} {R W : List Nat} {K : S → Prop} (hok : okAt ((bfs ops).getD i 0) R W fps = true) (h : ∀ K' : S → Prop, (∀ s', runD P Hy tt cls E ops os (i + 1) s' (fps ++ [(R, W)]) K → K' s') → opD P Hy ops o s R W K') : runD P Hy tt cls E ops (o :: os) i s fps K := .inl ⟨_, _, hok, .inr (.inr (h _ (fun _ h => h)))⟩
/-- an operation whose object has a number of one's own choice -/
theorem r_opC (c : Nat → Nat) {dst : Option Nat} {op : Op} {type : TypeId} {pos : String} {after : Array Edge} (h : ∀ K' : S → Prop, (∀ s', runM P Hy tt cls E ops os s' K → K' s') → op2 P Hy tt c dst op s K') : runM P Hy tt cls E ops (⟨dst, op, type, pos, after, none⟩ :: os) s K := .inr (.inr (.inr (.inr (.inl ⟨c, h _ (fun _ h => h)⟩))))
theorem d_opC (c : Nat → Nat) {i : Nat} {fps : List (List Nat × List Nat)} {dst : Option Nat} {op : Op} {type : TypeId} {pos : String} {after : Array Edge} (hok : okAt ((bfs ops).getD i 0) (rdO ⟨dst, op, type, pos, after, none⟩ s) (wrO c ⟨dst, op, type, pos, after, none⟩ s) fps = true)
    (h : ∀ K' : S → Prop, (∀ s', runD P Hy tt cls E ops os (i + 1) s' (fps ++ [(rdO ⟨dst, op, type, pos, after, none⟩ s, wrO c ⟨dst, op, type, pos, after, none⟩ s)]) K → K' s') → op2 P Hy tt c dst op s K') : runD P Hy tt cls E ops (⟨dst, op, type, pos, after, none⟩ :: os) i s fps K := .inl ⟨_, _, hok, .inr (.inl ⟨c, rfl, rfl, h _ (fun _ h => h)⟩)⟩
theorem env_eq {E' : Env} {l : Nat} {y : YC} {q : Prop} (h : E'.l = l ∧ E'.y = y ∧ q) : E' = ⟨l, y, E'.p⟩ := by
  obtain ⟨rfl, rfl, _⟩ := h
  rfl
/-- a yield -/
theorem r_yield {E' : Env} {l : Nat} {y : YC} {q : Prop} (hE : E'.l = l ∧ E'.y = y ∧ q) (h : ∀ K' : S → Prop, (∀ s', runM P Hy tt cls E' ops os s' K → K' s') → opY ops ⟨l, y, E'.p⟩ o s K') : runM P Hy tt cls E' ops (o :: os) s K := .inr (.inr (.inr (.inr (.inr (.inl (by rw [env_eq hE] at h ⊢; exact h _ (fun _ h => h)))))))
/-- a panic -/
theorem r_panic (h : opP ops E o s) : runM P Hy tt cls E ops (o :: os) s K := .inr (.inr (.inr (.inr (.inr (.inr (.inl h))))))
/-- a call that may panic -/
theorem r_callP (h : ∀ K' : S → Prop, (∀ s', runM P Hy tt cls E ops os s' K → K' s') → opC P Hy ops E o s K') : runM P Hy tt cls E ops (o :: os) s K := .inr (.inr (.inr (.inr (.inr (.inr (.inr (h _ (fun _ h => h))))))))
/-- where all others stand ahead or behind -/
theorem d_callM {i : Nat} {fps : List (List Nat × List Nat)} (hb : barr ops i = true) (h : ∀ K' : S → Prop, (∀ s', runD P Hy tt cls E ops os (i + 1) s' (fps ++ [([], [])]) K → K' s') → opM P Hy ops o s K') : runD P Hy tt cls E ops (o :: os) i s fps K := .inr ⟨hb, .inr (.inl (h _ (fun _ h => h)))⟩
theorem d_callF {i : Nat} {fps : List (List Nat × List Nat)} (hb : barr ops i = true) (h : ∀ K' : S → Prop, (∀ s', runD P Hy tt cls E ops os (i + 1) s' (fps ++ [([], [])]) K → K' s') → opF P Hy ops o s K') : runD P Hy tt cls E ops (o :: os) i s fps K := .inr ⟨hb, .inr (.inr (.inl (h _ (fun _ h => h))))⟩
theorem d_nilE {i : Nat} {fps : List (List Nat × List Nat)} (hb : barr ops i = true) (h : ∀ K' : S → Prop, (∀ s', runD P Hy tt cls E ops os (i + 1) s' (fps ++ [([], [])]) K → K' s') → opE tt o s K') : runD P Hy tt cls E ops (o :: os) i s fps K := .inr ⟨hb, .inr (.inr (.inr (.inl (h _ (fun _ h => h)))))⟩
theorem d_yield {i : Nat} {fps : List (List Nat × List Nat)} {E' : Env} {l : Nat} {y : YC} {q : Prop} (hE : E'.l = l ∧ E'.y = y ∧ q) (hb : barr ops i = true) (h : ∀ K' : S → Prop, (∀ s', runD P Hy tt cls E' ops os (i + 1) s' (fps ++ [([], [])]) K → K' s') → opY ops ⟨l, y, E'.p⟩ o s K') : runD P Hy tt cls E' ops (o :: os) i s fps K := .inr ⟨hb, .inr (.inr (.inr (.inr (.inr (.inl (by rw [env_eq hE] at h ⊢; exact h _ (fun _ h => h)))))))⟩
theorem d_panic {i : Nat} {fps : List (List Nat × List Nat)} (hb : barr ops i = true) (h : opP ops E o s) : runD P Hy tt cls E ops (o :: os) i s fps K := .inr ⟨hb, .inr (.inr (.inr (.inr (.inr (.inr (.inl h))))))⟩
theorem d_callP {i : Nat} {fps : List (List Nat × List Nat)} (hb : barr ops i = true) (h : ∀ K' : S → Prop, (∀ s', runD P Hy tt cls E ops os (i + 1) s' (fps ++ [([], [])]) K → K' s') → opC P Hy ops E o s K') : runD P Hy tt cls E ops (o :: os) i s fps K := .inr ⟨hb, .inr (.inr (.inr (.inr (.inr (.inr (.inr (h _ (fun _ h => h)))))))) ⟩
theorem q_seqP {N : S → Prop} {ch : List PanicEntry} (h : Q (.panic ch) s) : seqQ N Q (.panic ch) s := h
theorem q_blkP {id : Nat} {ch : List PanicEntry} (h : Q (.panic ch) s) : blkQ id Q (.panic ch) s := h
theorem q_lpP {I : Nat → S → Prop} {m : Nat} {ch : List PanicEntry} (h : Q (.panic ch) s) : lpQ I m Q (.panic ch) s := h
theorem q_pan {rs : List ResultVar} {R : List A → (Nat → O) → Prop} {Rp : A → (Nat → O) → Prop} {ch : List PanicEntry} (h : Rp (s.t s.n) s.o) : retP tt rs R Rp (.panic ch) s := h
theorem q_retP {rs : List ResultVar} {R : List A → (Nat → O) → Prop} {Rp : A → (Nat → O) → Prop} (h : resK tt s rs fun as => R as s.o) : retP tt rs R Rp .ret s := h
theorem q_endP {rs : List ResultVar} {R : List A → (Nat → O) → Prop} {Rp : A → (Nat → O) → Prop} (h : resK tt s rs fun as => R as s.o) : retP tt rs R Rp .normal s := h
theorem d_nil {i : Nat} {fps : List (List Nat × List Nat)} (h : K s) : runD P Hy tt cls E ops [] i s fps K := h
theorem q_seq {N : S → Prop} (h : N s) : seqQ N Q .normal s := ⟨s, StlS.refl s, h⟩
theorem q_seqS {N : S → Prop} {o' : Nat → O} (hs : Stl s.o o') (h : N ⟨s.n, s.t, o'⟩) : seqQ N Q .normal s := ⟨⟨s.n, s.t, o'⟩, StlS.stl hs, h⟩
theorem q_seqT {N : S → Prop} {s' : S} (hs : StlS s s') (h : N s') : seqQ N Q .normal s := ⟨s', hs, h⟩
theorem q_blk {id : Nat} (h : Q .normal s) : blkQ id Q .normal s := h
theorem q_seqE {N : S → Prop} {id : Nat} (h : Q (.exit id) s) : seqQ N Q (.exit id) s := h
theorem q_seqR {N : S → Prop} (h : Q .ret s) : seqQ N Q .ret s := h
theorem q_blkR {id : Nat} (h : Q .ret s) : blkQ id Q .ret s := h
theorem q_blkE {id id' : Nat} (h : if id' = id then Q .normal s else Q (.exit id') s) : blkQ id Q (.exit id') s := h
theorem q_blkHit {id : Nat} (h : Q .normal s) : blkQ id Q (.exit id) s := by
  show if id = id then Q .normal s else Q (.exit id) s
  rw [if_pos rfl]
  exact h
theorem q_blkMiss {id id' : Nat} (hne : Nat.beq id' id = false) (h : Q (.exit id') s) : blkQ id Q (.exit id') s := by
  show if id' = id then Q .normal s else Q (.exit id') s
  rw [if_neg (fun e => by subst e; simp at hne)]
  exact h
theorem q_lpE {I : Nat → S → Prop} {m id : Nat} (h : Q (.exit id) s) : lpQ I m Q (.exit id) s := h
theorem q_r1 {l : List ResultVar} {t : Nat} {K : List A → Prop} (h : resK tt s l fun as => K (s.ev (.tmp t) :: as)) : resK tt s (.tmp t :: l) K := h
theorem q_rc {l : List ResultVar} {x : Nat} {t : TypeId} {K : List A → Prop} (h : Pk tt (.load t (.tmp x)) s fun x => resK tt s l fun as => K (x :: as)) : resK tt s (.cell x t :: l) K := h
theorem q_r0 {K : List A → Prop} (h : K []) : resK tt s [] K := h
/-- what comes behind a round's first part -/
def asQ (N : S → Prop) : Exit → S → Prop := fun e s1 => match e with
  | .normal => N s1
  | _ => False
/-- what comes behind a round -/
def bdQ (Inv : Nat → (Nat → O) → Prop) (i : Nat) : Exit → S → Prop := fun e s2 => match e with
  | .normal => ∃ o3, Stl s2.o o3 ∧ Inv (i + 1) o3
  | _ => False
theorem q_as {N : S → Prop} (h : N s) : asQ N .normal s := h
theorem q_bd {Inv : Nat → (Nat → O) → Prop} {i : Nat} (h : Inv (i + 1) s.o) : bdQ Inv i .normal s := ⟨s.o, Stl.refl, h⟩
theorem q_bdS {Inv : Nat → (Nat → O) → Prop} {i : Nat} {o' : Nat → O} (hs : Stl s.o o') (h : Inv (i + 1) o') : bdQ Inv i .normal s := ⟨o', hs, h⟩
theorem c_range {g : Operand} {ps : Array Tmp} {x y : Code} {gf : FuncId} {lb : List A} {ids : List Nat} {ls : List (List T)} (Inv : Nat → (Nat → O) → Prop) (hg : s.ev g = .fn gf [] lb) (it : ItC P Hy gf lb s.o ids ls) (hps : ∀ x ∈ ls, x.length = ps.size) (h0 : Inv 0 s.o)
    (hids : ∀ i o', Inv i o' → ∀ id ∈ ids, o' id = s.o id) (hr : ∀ i xs o', ls[i]? = some xs → Inv i o' → cwp P Hy tt cls E0 false x (asQ (cwp P Hy tt cls E0 false y (bdQ Inv i))) (setPs s o' ps.toList xs)) (he : ∀ o', Inv ls.length o' → Q .normal ⟨s.n, s.t, o'⟩) :
    cwp P Hy tt cls E true (.rangeFunc g ps x y) Q s := ⟨rfl, .inl ⟨gf, lb, ids, ls, Inv, hg, it, hps, h0, hids, hr, he⟩⟩
/-- what comes behind a round, where this must be so of objects -/
def bdY (Rb : (Nat → O) → Prop) : Exit → S → Prop := fun e s2 => match e with
  | .normal => ∃ o3, Stl s2.o o3 ∧ Rb o3
  | _ => False
theorem q_by {Rb : (Nat → O) → Prop} (h : Rb s.o) : bdY Rb .normal s := ⟨s.o, Stl.refl, h⟩
theorem q_byS {Rb : (Nat → O) → Prop} {o' : Nat → O} (hs : Stl s.o o') (h : Rb o') : bdY Rb .normal s := ⟨o', hs, h⟩
theorem c_rangeY {g : Operand} {ps : Array Tmp} {x y : Code} {gf : FuncId} {lb : List A} (Y : YC) (R : List A → (Nat → O) → Prop) (hg : s.ev g = .fn gf [] lb) (it : ∀ l, CmY P Hy gf l Y (.t (.yl l) :: lb) s.o R)
    (hr : ∀ args o1 Rb, Y args o1 Rb → args.length = ps.size ∧ cwp P Hy tt cls E0 false x (asQ (cwp P Hy tt cls E0 false y (bdY Rb))) (setPA s o1 ps.toList args)) (he : ∀ rs o', R rs o' → Q .normal ⟨s.n, s.t, o'⟩) :
    cwp P Hy tt cls E true (.rangeFunc g ps x y) Q s := ⟨rfl, .inr ⟨gf, lb, Y, R, hg, it, hr, he⟩⟩
theorem q_ret {rs : List ResultVar} {R : List A → (Nat → O) → Prop} (h : resK tt s rs fun as => R as s.o) : retQ tt rs R .ret s := h
theorem q_end {rs : List ResultVar} {R : List A → (Nat → O) → Prop} (h : resK tt s rs fun as => R as s.o) : retQ tt rs R .normal s := h
theorem q_lpN {I : Nat → S → Prop} {m : Nat} (h : ∃ k, k < m ∧ I k s) : lpQ I m Q .normal s := h
theorem q_lpR {I : Nat → S → Prop} {m : Nat} (h : Q .ret s) : lpQ I m Q .ret s := h

/-! what a state is, by what was put -/
theorem nf_put (n : Nat) (F : Nat → A) (G : Nat → O) (ts : List (Nat × A)) (os : List (Nat × O)) (d : Nat) (x : A) : (nf n F G ts os).put (some d) x = nf n F G ((d, x) :: ts) os := rfl
theorem nf_ob (n : Nat) (F : Nat → A) (G : Nat → O) (ts : List (Nat × A)) (os : List (Nat × O)) (d : Nat) (x : O) : (nf n F G ts os).ob d x = nf n F G ts ((d, x) :: os) := rfl
theorem nf_none (n : Nat) (F : Nat → A) (G : Nat → O) (ts : List (Nat × A)) (os : List (Nat × O)) (x : A) : (nf n F G ts os).put none x = nf n F G ts os := rfl
theorem nf_t (n : Nat) (F : Nat → A) (G : Nat → O) (ts : List (Nat × A)) (os : List (Nat × O)) (j : Nat) : (nf n F G ts os).t j = lookA ts j (F j) := rfl
theorem nf_o (n : Nat) (F : Nat → A) (G : Nat → O) (ts : List (Nat × A)) (os : List (Nat × O)) (j : Nat) : (nf n F G ts os).o j = lookO os j (G j) := rfl
theorem nf_n (n : Nat) (F : Nat → A) (G : Nat → O) (ts : List (Nat × A)) (os : List (Nat × O)) : (nf n F G ts os).n = n := rfl
theorem ev_tmp (t : Nat) : s.ev (.tmp t) = if t < s.n then s.t t else .junk := rfl
theorem ev_const (v : Value) : s.ev (.const v) = constA v := rfl
theorem optK_some {α : Type} (x : α) (K : α → Prop) : optK (some x) K = K x := rfl
theorem lookA_cons (p : Nat × A) (l : List (Nat × A)) (j : Nat) (d : A) : lookA (p :: l) j d = if j = p.1 then p.2 else lookA l j d := rfl
theorem lookA_nil (j : Nat) (d : A) : lookA [] j d = d := rfl
theorem lookO_cons (p : Nat × O) (l : List (Nat × O)) (j : Nat) (d : O) : lookO (p :: l) j d = if j = p.1 then p.2 else lookO l j d := rfl
theorem lookO_nil (j : Nat) (d : O) : lookO [] j d = d := rfl
theorem lookO_other {i : Nat} {d : O} : ∀ {os : List (Nat × O)}, (∀ p ∈ os.map (·.1), p ≠ i) → lookO os i d = d
  | [], _ => rfl
  | p :: os, h => by
    rw [lookO_cons, if_neg (fun e => h p.1 (by simp) e.symm)]
    exact lookO_other (fun q hq => h q (by simp only [List.map_cons, List.mem_cons]; exact .inr hq))
theorem updR_some {n : Nat} {F : Nat → A} {G : Nat → O} {ts : List (Nat × A)} {os up : List (Nat × O)} {d : Nat} {y : A} : updR (nf n F G ts os) up (some d) y = nf n F G ((d, y) :: ts) (up ++ os) := by
  unfold updR upd
  rw [← lookO_fold up (nf n F G ts os)]
  have e : (fun j => lookO up j ((nf n F G ts os).o j)) = fun j => lookO (up ++ os) j (G j) := by
    funext j
    induction up with
    | nil => rfl
    | cons p up ih => rw [List.cons_append]; unfold lookO; rw [ih]
  rw [e]
  rfl
theorem updR_none {n : Nat} {F : Nat → A} {G : Nat → O} {ts : List (Nat × A)} {os up : List (Nat × O)} {y : A} : updR (nf n F G ts os) up none y = nf n F G ts (up ++ os) := by
  unfold updR upd
  rw [← lookO_fold up (nf n F G ts os)]
  have e : (fun j => lookO up j ((nf n F G ts os).o j)) = fun j => lookO (up ++ os) j (G j) := by
    funext j
    induction up with
    | nil => rfl
    | cons p up ih => rw [List.cons_append]; unfold lookO; rw [ih]
  rw [e]
  rfl
theorem nf_eta {n m : Nat} {F : Nat → A} {G : Nat → O} {ts : List (Nat × A)} {os : List (Nat × O)} (o' : Nat → O) : (⟨m, (nf n F G ts os).t, o'⟩ : S) = nf m F o' ts [] := rfl
theorem nf_eta2 {n : Nat} {F : Nat → A} {G : Nat → O} {ts : List (Nat × A)} {os : List (Nat × O)} : nf n F (nf n F G ts os).o ts [] = nf n F G ts os := rfl
theorem nf_eta3 {n m : Nat} {F F' : Nat → A} {G : Nat → O} {ts ts' : List (Nat × A)} {os : List (Nat × O)} : nf n F (nf m F' G ts os).o ts' [] = nf n F G ts' os := rfl
theorem nf_oo {n : Nat} {F : Nat → A} {G : Nat → O} {ts : List (Nat × A)} : (nf n F G ts []).o = G := rfl
theorem nf_pan {n : Nat} {F : Nat → A} {G o' : Nat → O} {ts : List (Nat × A)} {os : List (Nat × O)} (x : A) : (nf n F G ts os).pan x o' = nf n F o' ((n, x) :: ts) [] := rfl
theorem q_eN {R : (Nat → O) → Prop} {s : S} (h : R s.o) : endR R .normal s := h
theorem q_eT {R : (Nat → O) → Prop} {s : S} (h : R s.o) : endR R .ret s := h
theorem q_pre {N : S → Prop} {s : S} (h : N s) : preD N .normal s := h
theorem q_dT {rs : List ResultVar} {g : FuncId} {caps : List A} {R : List A → (Nat → O) → Prop} {Rc : (Nat → O) → Prop} {s : S} (hc : Cr P Hy g caps s.o none Rc) (h : ∀ o', Rc o' → resK tt ⟨s.n, s.t, o'⟩ rs fun as => R as o') : retD P Hy tt rs g caps R .ret s := ⟨_, hc, h⟩
theorem q_dN {rs : List ResultVar} {g : FuncId} {caps : List A} {R : List A → (Nat → O) → Prop} {Rc : (Nat → O) → Prop} {s : S} (hc : Cr P Hy g caps s.o none Rc) (h : ∀ o', Rc o' → resK tt ⟨s.n, s.t, o'⟩ rs fun as => R as o') : retD P Hy tt rs g caps R .normal s := ⟨_, hc, h⟩
theorem q_dP {rs : List ResultVar} {g : FuncId} {caps : List A} {R : List A → (Nat → O) → Prop} {Rc : (Nat → O) → Prop} {s : S} (hc : Cr P Hy g caps s.o (some (s.t s.n)) Rc) (h : ∀ o', Rc o' → resK tt ⟨s.n, s.t, o'⟩ rs fun as => R as o') : retD P Hy tt rs g caps R (.panic []) s := ⟨_, hc, h⟩
theorem nf_mk {n : Nat} {F : Nat → A} {G o' : Nat → O} {ts : List (Nat × A)} {os : List (Nat × O)} : (⟨(nf n F G ts os).n, (nf n F G ts os).t, o'⟩ : S) = nf n F o' ts [] := rfl
theorem nf_frz {n : Nat} {F : Nat → A} {G : Nat → O} {sl : List (Nat × A)} : ∀ (up : Ups) (ob : List (Nat × O)), (nf n F G sl ob).frz up = nf n F G sl (up.reverse ++ ob)
  | [], _ => rfl
  | p :: up, ob => by
    rw [List.reverse_cons, List.append_assoc]
    exact nf_frz up (p :: ob)
theorem q_frz {N : S → Prop} {n : Nat} {F : Nat → A} {G : Nat → O} {sl : List (Nat × A)} {ob : List (Nat × O)} (j : Nat) {t0 : T} {up0 : Ups} (hj : j < n) (hf : frz (nf n F G sl ob).o ((nf n F G sl ob).t j) fun t up => t = t0 ∧ up = up0)
    (h : N (nf n F G ((j, .t t0) :: sl) (up0.reverse ++ ob))) : seqQ N Q .normal (nf n F G sl ob) := by
  refine q_seqT (s' := ((nf n F G sl ob).frz up0).put (some j) (.t t0)) (StlS.frz hj hf) ?_
  rw [nf_frz]
  exact h
theorem s0_nf (n : Nat) (args : List A) (o : Nat → O) : s0 n args o = nf n (fun _ => .junk) o ((args.zipIdx).map fun p => (p.2, p.1)) [] := by
  have key : ∀ (l : List A) (k j : Nat), lookA ((l.zipIdx k).map fun p => (p.2, p.1)) j .junk = (if k ≤ j then match l[j - k]? with
    | some t => t
    | none => .junk else .junk) := by
    intro l
    induction l with
    | nil => intro k j; split <;> rfl
    | cons x l ih =>
      intro k j
      rw [List.zipIdx_cons, List.map_cons]
      unfold lookA
      dsimp only
      by_cases h : j = k
      · rw [if_pos h, if_pos (by omega), h, Nat.sub_self]
        rfl
      · rw [if_neg h, ih]
        by_cases h2 : k + 1 ≤ j
        · rw [if_pos h2, if_pos (by omega), show j - k = (j - (k + 1)) + 1 by omega, List.getElem?_cons_succ]
        · rw [if_neg h2, if_neg (by omega)]
  refine S.ext3 rfl (fun j => ?_) (fun id => rfl)
  have := key args 0 j
  rw [if_pos (Nat.zero_le j), Nat.sub_zero] at this
  exact this.symm
end
attribute [go_sem] eqF agA tF strK Option.bind_some Option.bind_none Option.map_some Option.map_none Bool.and_true Bool.true_and setPA opY opP opC arrK opE nilK mapK delK kyA kyI kyG ksOf zA opD updR_some updR_none setPs List.zip_cons_cons List.zip_nil_left List.zip_nil_right
attribute [go_sem] nf_pan nf_mk opK op1 isE isNilI nilI agT toT TK.conc Option.map_some Pk biK binK inR ev_tmp ev_const constA constC nf_put nf_ob nf_none nf_t nf_o nf_n lookA_cons lookA_nil lookO_cons lookO_nil optK_some takeT takeA cellsA cellsT
attribute [go_sem] resK o0 opM opF gOk List.getElem?_cons_zero resM frzL frz frz1 frzC frz0 frzC0 frzE mask isA srcA A.plain A.leaf T.leaf Ek callK apK isSl true_or or_true false_or or_false srcK resA T.flat S.frz upd placesA fillA setR List.all_cons List.all_nil Bool.and_true Bool.true_and Bool.and_self Bool.or_false Bool.false_or Bool.or_true Bool.true_or Bool.or_self Bool.and_false Bool.false_and List.not_mem_nil not_false_eq_true List.foldl_cons List.foldl_nil List.nil_append List.cons_append List.append_nil eq_self_iff_true
@[go_sem] theorem tk1 {α : Type} (a0 : α) (l : List α) : (a0 :: l).take 1 = [a0] := rfl
@[go_sem] theorem dp1 {α : Type} (a0 : α) (l : List α) : (a0 :: l).drop 1 = l := rfl
@[go_sem] theorem tk2 {α : Type} (a0 a1 : α) (l : List α) : (a0 :: a1 :: l).take 2 = [a0, a1] := rfl
@[go_sem] theorem dp2 {α : Type} (a0 a1 : α) (l : List α) : (a0 :: a1 :: l).drop 2 = l := rfl
@[go_sem] theorem tk3 {α : Type} (a0 a1 a2 : α) (l : List α) : (a0 :: a1 :: a2 :: l).take 3 = [a0, a1, a2] := rfl
@[go_sem] theorem dp3 {α : Type} (a0 a1 a2 : α) (l : List α) : (a0 :: a1 :: a2 :: l).drop 3 = l := rfl
@[go_sem] theorem tk4 {α : Type} (a0 a1 a2 a3 : α) (l : List α) : (a0 :: a1 :: a2 :: a3 :: l).take 4 = [a0, a1, a2, a3] := rfl
@[go_sem] theorem dp4 {α : Type} (a0 a1 a2 a3 : α) (l : List α) : (a0 :: a1 :: a2 :: a3 :: l).drop 4 = l := rfl
@[go_sem] theorem tk5 {α : Type} (a0 a1 a2 a3 a4 : α) (l : List α) : (a0 :: a1 :: a2 :: a3 :: a4 :: l).take 5 = [a0, a1, a2, a3, a4] := rfl
@[go_sem] theorem dp5 {α : Type} (a0 a1 a2 a3 a4 : α) (l : List α) : (a0 :: a1 :: a2 :: a3 :: a4 :: l).drop 5 = l := rfl
@[go_sem] theorem tk6 {α : Type} (a0 a1 a2 a3 a4 a5 : α) (l : List α) : (a0 :: a1 :: a2 :: a3 :: a4 :: a5 :: l).take 6 = [a0, a1, a2, a3, a4, a5] := rfl
@[go_sem] theorem dp6 {α : Type} (a0 a1 a2 a3 a4 a5 : α) (l : List α) : (a0 :: a1 :: a2 :: a3 :: a4 :: a5 :: l).drop 6 = l := rfl
@[go_sem] theorem tk7 {α : Type} (a0 a1 a2 a3 a4 a5 a6 : α) (l : List α) : (a0 :: a1 :: a2 :: a3 :: a4 :: a5 :: a6 :: l).take 7 = [a0, a1, a2, a3, a4, a5, a6] := rfl
@[go_sem] theorem dp7 {α : Type} (a0 a1 a2 a3 a4 a5 a6 : α) (l : List α) : (a0 :: a1 :: a2 :: a3 :: a4 :: a5 :: a6 :: l).drop 7 = l := rfl
@[go_sem] theorem tk8 {α : Type} (a0 a1 a2 a3 a4 a5 a6 a7 : α) (l : List α) : (a0 :: a1 :: a2 :: a3 :: a4 :: a5 :: a6 :: a7 :: l).take 8 = [a0, a1, a2, a3, a4, a5, a6, a7] := rfl
@[go_sem] theorem dp8 {α : Type} (a0 a1 a2 a3 a4 a5 a6 a7 : α) (l : List α) : (a0 :: a1 :: a2 :: a3 :: a4 :: a5 :: a6 :: a7 :: l).drop 8 = l := rfl
@[go_sem] theorem tk9 {α : Type} (a0 a1 a2 a3 a4 a5 a6 a7 a8 : α) (l : List α) : (a0 :: a1 :: a2 :: a3 :: a4 :: a5 :: a6 :: a7 :: a8 :: l).take 9 = [a0, a1, a2, a3, a4, a5, a6, a7, a8] := rfl
@[go_sem] theorem dp9 {α : Type} (a0 a1 a2 a3 a4 a5 a6 a7 a8 : α) (l : List α) : (a0 :: a1 :: a2 :: a3 :: a4 :: a5 :: a6 :: a7 :: a8 :: l).drop 9 = l := rfl
@[go_sem] theorem tk10 {α : Type} (a0 a1 a2 a3 a4 a5 a6 a7 a8 a9 : α) (l : List α) : (a0 :: a1 :: a2 :: a3 :: a4 :: a5 :: a6 :: a7 :: a8 :: a9 :: l).take 10 = [a0, a1, a2, a3, a4, a5, a6, a7, a8, a9] := rfl
@[go_sem] theorem dp10 {α : Type} (a0 a1 a2 a3 a4 a5 a6 a7 a8 a9 : α) (l : List α) : (a0 :: a1 :: a2 :: a3 :: a4 :: a5 :: a6 :: a7 :: a8 :: a9 :: l).drop 10 = l := rfl
attribute [go_sem] slB List.length_replicate Int.toNat_zero Int.sub_zero op2 guardK List.range_zero beq_self_eq_true id_eq List.take_succ_cons List.take_zero List.take_nil nf_eta nf_eta3 nf_oo Option.bind_some decide_true decide_false true_implies false_implies if_true if_false List.map_cons List.map_nil List.toList_toArray List.length_map List.length_cons List.length_nil List.getElem?_cons_zero List.getElem?_cons_succ List.getElem?_map Option.map_some Int.toNat_natCast true_and and_true List.drop_succ_cons List.drop_zero Bool.not_true Bool.not_false
end Go.Proofs.YtfflfmpkjcomgaaDoor
