import Derived.Test.YtbhoeanfnbkenaaGreatDoorEng3
import Derived.Laws.CopyRow
import Derived.Great.BuildSlice
import Derived.Lib.AppendZerosOnto
import Derived.Laws.DeepStrings4
import Derived.Laws.Slices
import Derived.Laws.Strings2
namespace Go.Proofs.YtbhoeanfnbkenaaGreatDoor
open Go.RowKit
abbrev Ups := List (Nat × O)
def frz0 (o : Nat → O) (x : A) (K : T → Ups → Prop) : Prop := match x with
 | .t x => K x []
 | .nilS => K (.sl []) []
 | .row id g => g = (o id).gen ∧ match (o id).k with
  | .row _ _ l => K (.sl l) [(id, ⟨g, .ro l⟩)]
  | .ro l => K (.sl l) []
  | _ => False
 | _ => False
def frzC0 (o : Nat → O) : List A → (List T → Ups → Prop) → Prop
 | [], K => K [] []
 | x :: l, K => x.leaf = true ∧ frz0 o x fun t i => frzC0 o l fun ts is => K (t :: ts) (i ++ is)
def frzE (o : Nat → O) : List (List A) → (List (List T) → Ups → Prop) → Prop
 | [], K => K [] []
 | e :: l, K => frzC0 o e fun t i => frzE o l fun ts is => K (t :: ts) (i ++ is)
def frz1 (o : Nat → O) (x : A) (K : T → Ups → Prop) : Prop := match x with
 | .t x => K x []
 | .nilS => K (.sl []) []
 | .row id g => g = (o id).gen ∧ match (o id).k with
  | .row _ _ l => K (.sl l) [(id, ⟨g, .ro l⟩)]
  | .ro l => K (.sl l) []
  | .rowA _ _ l => frzE o l fun m i => K (.sl m) (i ++ [(id, ⟨g, .ro m⟩)])
  | _ => False
 | _ => False
def frzC (o : Nat → O) : List A → (List T → Ups → Prop) → Prop
 | [], K => K [] []
 | x :: l, K => x.leaf = true ∧ frz1 o x fun t i => frzC o l fun ts is => K (t :: ts) (i ++ is)
def frz (o : Nat → O) (x : A) (K : T → Ups → Prop) : Prop := match x with
 | .ag l => frzC o l fun ts is => K (.ag ts) is
 | .t x => K x []
 | .nilS => K (.sl []) []
 | .row id g => frz1 o (.row id g) K
 | _ => False
def zbc (o : Nat → O) : List A → (List T → Ups → Prop) → Prop
 | [], K => K [] []
 | x :: l, K => frz o x fun t i => zbc o l fun ts is => K (t :: ts) (i ++ is)
theorem frz0.imp {o : Nat → O} {x : A} {K K' : T → Ups → Prop} (hk : frz0 o x K) (h : ∀ t u, K t u → K' t u) : frz0 o x K' := by
 unfold frz0 at hk ⊢
 split at hk
 ·exact h _ _ hk
 ·exact h _ _ hk
 ·obtain ⟨hg, hk⟩ := hk
  refine ⟨hg, ?_⟩
  split at hk
  ·exact h _ _ hk
  ·exact h _ _ hk
  ·exact hk.elim
 ·exact hk.elim
theorem frzC0.imp {o : Nat → O} : ∀ {l : List A} {K K' : List T → Ups → Prop}, frzC0 o l K → (∀ t u, K t u → K' t u) → frzC0 o l K'
 | [], _, _, hk, h => h _ _ hk
 | _ :: _, _, _, ⟨hl, hk⟩, h => ⟨hl, hk.imp fun _ _ hk => hk.imp fun _ _ => h _ _⟩
theorem frzE.imp {o : Nat → O} : ∀ {l : List (List A)} {K K' : List (List T) → Ups → Prop}, frzE o l K → (∀ t u, K t u → K' t u) → frzE o l K'
 | [], _, _, hk, h => h _ _ hk
 | _ :: _, _, _, hk, h => frzC0.imp hk fun _ _ hk => hk.imp fun _ _ => h _ _
def zaD (o : Nat → O) (id : Nat) : O := ⟨(o id).gen, match (o id).k with
 | .rowA .. => .none
 | k => k⟩
theorem zhp {o : Nat → O} {x : A} {K : T → Ups → Prop} (hk : frz1 (zaD o) x K) : frz1 o x K := by
 unfold frz1 at hk ⊢
 split at hk
 ·exact hk
 ·exact hk
 ·obtain ⟨hg, hk⟩ := hk
  refine ⟨hg, ?_⟩
  simp only [zaD] at hk hg
  split at hk
  ·rename_i e
   split at e
   ·cases e
   ·rw [e]; rw [hg] at hk ⊢; exact hk
  ·rename_i e
   split at e
   ·cases e
   ·rw [e]; exact hk
  ·rename_i e
   split at e
   ·cases e
   ·rename_i hn
    exact absurd e (hn _ _ _)
  ·exact hk.elim
 ·exact hk
theorem frz1.imp {o : Nat → O} {x : A} {K K' : T → Ups → Prop} (hk : frz1 o x K) (h : ∀ t u, K t u → K' t u) : frz1 o x K' := by
 unfold frz1 at hk ⊢
 split at hk
 ·exact h _ _ hk
 ·exact h _ _ hk
 ·obtain ⟨hg, hk⟩ := hk
  refine ⟨hg, ?_⟩
  split at hk
  ·exact h _ _ hk
  ·exact h _ _ hk
  ·exact frzE.imp hk (fun _ _ => h _ _)
  ·exact hk.elim
 ·exact hk.elim
theorem zhq {o : Nat → O} : ∀ {l : List A} {K : List T → Ups → Prop}, frzC (zaD o) l K → frzC o l K
 | [], _, hk => hk
 | _ :: _, _, ⟨hl, hk⟩ => ⟨hl, (zhp hk).imp fun _ _ hk => zhq hk⟩
theorem zhr {o : Nat → O} {x : A} {K : T → Ups → Prop} (hk : frz (zaD o) x K) : frz o x K := by
 unfold frz at hk ⊢
 split at hk
 ·exact zhq hk
 ·exact hk
 ·exact hk
 ·exact zhp hk
 ·exact hk
theorem frzC.imp {o : Nat → O} : ∀ {l : List A} {K K' : List T → Ups → Prop}, frzC o l K → (∀ t u, K t u → K' t u) → frzC o l K'
 | [], _, _, hk, h => h _ _ hk
 | _ :: _, _, _, ⟨hl, hk⟩, h => ⟨hl, hk.imp fun _ _ hk => hk.imp fun _ _ => h _ _⟩
theorem frz.imp {o : Nat → O} {x : A} {K K' : T → Ups → Prop} (hk : frz o x K) (h : ∀ t u, K t u → K' t u) : frz o x K' := by
 unfold frz at hk ⊢
 split at hk
 ·exact hk.imp fun _ _ => h _ _
 ·exact h _ _ hk
 ·exact h _ _ hk
 ·exact hk.imp h
 ·exact hk.elim
theorem zem {o : Nat → O} : ∀ {l : List A} {K : List T → Ups → Prop}, zbc (zaD o) l K → zbc o l K
 | [], _, hk => hk
 | _ :: _, _, hk => (zhr hk).imp fun _ _ hk => zem hk
def S.frz (s : S) (up : Ups) : S := up.foldl (fun s p => s.ob p.1 p.2) s
def T.flat : T → Bool
 | .b _ => true
 | .i _ _ => true
 | .s _ => true
 | _ => false
def Rres (w : World) (D : Nat → Prop) (v : Value) : List T → Prop
 | [x] => Rt w D v x
 | l => ∃ (cs : Array Value) (c : Nat → Value), v = .tuple cs ∧ cs.size = l.length ∧ (∀ j, j < l.length → cs[j]? = some (c j)) ∧ ∀ (j : Nat) x, l[j]? = some x → Rt w D (c j) x
def zcu : List T → A
 | [x] => .t x
 | l => .tup (l.map .t)
structure Ct (P : Program) (Hy : World → Prop) (f : FuncId) (args r : List T) : Prop where
 fn : ∃ fn, P.funcs[f]? = some fn ∧ fn.name ≠ "runtime.NumGoroutine" ∧ fn.body ≠ none
 go : ∀ (w : World) (cargs : Array Value) (D : Nat → Prop), (∀ g, D g → g < w.heap.size) → (∀ w', Below w.heap.size w w' → Hy w') → cargs.size = args.length → (∀ (j : Nat) v t, cargs[j]? = some v → args[j]? = some t → Rt w D v t) →
  Calls P f cargs w fun e w' => ∃ v, e = .returned v ∧ Rres w' (fun g => D g ∨ (w.heap.size ≤ g ∧ g < w'.heap.size)) v r ∧ Below w.heap.size w w'
def z7 : A → List A
 | .t (.ag l) => l.map .t
 | .ag l => l
 | x => [x]
def zas : T → List T
 | .ag l => l
 | x => [x]
def zap {α : Type} (l : List α) (off : Nat) (cs : List α) : List α := l.take off ++ cs ++ l.drop (off + cs.length)
def zda (tt : Tys) : List (Nat × TypeId) → Option (List (Nat × Nat))
 | [] => some []
 | p :: l => match tt p.2, zda tt l with
  | some d, some r => some ((p.1, d.size) :: r)
  | _, _ => none
def zcP (place : Nat → Option (Nat × Nat)) (l : List A) : List (Nat × A) → Option (List A)
 | [] => some l
 | (i, x) :: rest => match place i with
  | some (off, n) => if (z7 x).length = n ∧ off + n ≤ l.length ∧ (z7 x).all A.leaf = true then zcP place (zap l off (z7 x)) rest else none
  | none => none
def A.plain : A → Bool
 | .t _ => true
 | .nilS => true
 | .ag l => l.all fun x => match x with
  | .t _ => true
  | .nilS => true
  | _ => false
 | _ => false
def zbY (o : Nat → O) (z : Nat) (x : A) (K : List (List T) → Prop) : Prop := match x with
 | .t (.sl l) => (∀ e ∈ l, e.length = z) ∧ K l
 | .nilS => K []
 | .row id g => g = (o id).gen ∧ match (o id).k with
  | .row _ z' l => z' = z ∧ K l
  | .ro l => (∀ e ∈ l, e.length = z) ∧ K l
  | _ => False
 | _ => False
def isA (o : Nat → O) (x : A) : Bool := match x with
 | .row id _ => match (o id).k with
  | .rowA .. => true
  | _ => false
 | _ => false
def zcb (o : Nat → O) (z : Nat) (x : A) (K : List (List A) → Prop) : Prop := match isA o x with
 | true => match x with
  | .row id g => g = (o id).gen ∧ match (o id).k with
   | .rowA _ z' l => z' = z ∧ K l
   | _ => False
  | _ => False
 | false => zbY o z x fun l => K (l.map fun e => e.map .t)
def zdM (tt : Tys) (t : TypeId) : Bool := match tt t with
 | some d => match d.k with
  | .slice _ => true
  | _ => false
 | none => false
def apK (tt : Tys) (cls : Nat → Nat) (dst : Option Nat) (args : List A) (tys : List TypeId) (s : S) (K : S → Prop) : Prop := match args, tys with
 | [x, y], [t, t'] => zF dst fun d => zF (tt t) fun td => match td.k with
  | .slice e => if t = t' ∨ zdM tt t' = true then zF (tt e) fun de => (0 < de.size ∧ de.zero.length = de.size) ∧ match isA s.o x || isA s.o y with
   | true => zcb s.o de.size y fun m => match x with
    | .nilS => (m.length * de.bytes ≤ 140737488355328 ∧ m.length ≤ 9223372036854775807) ∧ K ((s.ob (cls d) ⟨(s.o (cls d)).gen + 1, .rowA e de.size m⟩).put dst (.row (cls d) ((s.o (cls d)).gen + 1)))
    | .row id g => g = (s.o id).gen ∧ match (s.o id).k with
     | .row e' z l => e' = e ∧ z = de.size ∧ ((l.length + m.length) * de.bytes ≤ 140737488355328 ∧ l.length + m.length ≤ 9223372036854775807) ∧ K ((s.ob id ⟨g + 1, .rowA e de.size ((l.map fun e => e.map .t) ++ m)⟩).put dst (.row id (g + 1)))
     | .rowA e' z l => e' = e ∧ z = de.size ∧ ((l.length + m.length) * de.bytes ≤ 140737488355328 ∧ l.length + m.length ≤ 9223372036854775807) ∧ K ((s.ob id ⟨g + 1, .rowA e de.size (l ++ m)⟩).put dst (.row id (g + 1)))
     | _ => False
    | _ => False
   | false => zbY s.o de.size y fun m => match x with
    | .nilS => (m.length * de.bytes ≤ 140737488355328 ∧ m.length ≤ 9223372036854775807) ∧ K ((s.ob (cls d) ⟨(s.o (cls d)).gen + 1, .row e de.size m⟩).put dst (.row (cls d) ((s.o (cls d)).gen + 1)))
    | .row id g => g = (s.o id).gen ∧ match (s.o id).k with
     | .row e' z l => e' = e ∧ z = de.size ∧ ((l.length + m.length) * de.bytes ≤ 140737488355328 ∧ l.length + m.length ≤ 9223372036854775807) ∧ K ((s.ob id ⟨g + 1, .row e de.size (l ++ m)⟩).put dst (.row id (g + 1)))
     | _ => False
    | _ => False
   else zF (tt e) fun de => zF (tt t') fun dt => (de.size = 1 ∧ ∃ k, dt.k = .int k) ∧ match x, y, de.zero with
    | .nilS, .t (.i _ n), [z] => (0 < n ∧ n ≤ 16777216 ∧ de.bytes ≤ 1000) ∧ match zaN z with
     | .t u => K ((s.ob (cls d) ⟨(s.o (cls d)).gen + 1, .row e 1 (List.replicate n.toNat [u])⟩).put dst (.row (cls d) ((s.o (cls d)).gen + 1)))
     | .nilS => K ((s.ob (cls d) ⟨(s.o (cls d)).gen + 1, .row e 1 (List.replicate n.toNat [.sl []])⟩).put dst (.row (cls d) ((s.o (cls d)).gen + 1)))
     | _ => False
    | .row id g, .t (.i _ n), [z] => g = (s.o id).gen ∧ match (s.o id).k with
     | .row e' z' l => e' = e ∧ z' = 1 ∧ (0 ≤ n ∧ l.length + n.toNat ≤ 16777216 ∧ de.bytes ≤ 1000) ∧ match zaN z with
      | .t u => K ((s.ob id ⟨g + 1, .row e 1 (l ++ List.replicate n.toNat [u])⟩).put dst (.row id (g + 1)))
      | _ => False
     | _ => False
    | _, _, _ => False
  | _ => False
 | _, _ => False
def slB (b : Option A) (d : Int) (K : Int → Prop) : Prop := match b with
 | none => K d
 | some (.t (.i _ n)) => K n
 | _ => False
def zdN (P : Program) (Hy : World → Prop) (dst : Option Nat) (f : FuncId) (L : List A) (s : S) (K : S → Prop) : Prop := zbc (zaD s.o) L fun ts ids => ∃ r, Ct P Hy f ts r ∧ K ((if r.all T.flat then s else s.frz ids).put dst (zcu r))
def zam (l : List (Ky × A)) (k : Ky) : Option A := (l.find? fun p => p.1 = k).map (·.2)
def zaE (l : List (Ky × A)) (k : Ky) (y : A) : List (Ky × A) := if k ∈ l.map (·.1) then l.map (fun p => if p.1 = k then (k, y) else p) else l ++ [(k, y)]
def zbt (l : List (Ky × A)) (k : Ky) : List (Ky × A) := l.filter fun p => decide (p.1 ≠ k)
def zaS (tt : Tys) (t : TypeId) : KS := match tt t with
 | some d => match d.k with
  | .int q => .int q
  | .array n e => match tt e with
   | some d => match d.k with
    | .int q => .arr q n
    | _ => .str
   | none => .str
  | _ => .str
 | none => .str
def zA (tt : Tys) (t : TypeId) : A := match tt t with
 | some d => match d.agg, d.zero with
  | false, [v] => zaN v
  | true, l => .ag (l.map zaN)
  | _, _ => .junk
 | none => .junk
structure MLaw (P : Program) (tt : Tys) (mt kt et : TypeId) : Prop where
 und : P.underlying mt = some (.map kt et)
 keyed : Go.Maps.Keyed P kt
 key : ∀ ky : Ky, ky.ok (zaS tt kt) → ∃ l, keyOf P kt ky.v = some l
 zero : ∃ v, (∀ w : World, (zeroValue et).run P w = .ok v w) ∧ ∀ (w : World) (D : Nat → Prop) (o : Nat → O) (ι : Nat → Value), Ra w D o ι v (zA tt et)
def zbZ (P : Program) (tt : Tys) (cls : Nat → Nat) (dst : Option Nat) (op : Op) (s : S) (K : S → Prop) : Prop := match op with
 | .makeMap mt none => zF dst fun d => zF (tt mt) fun td => match td.k with
  | .map kt et => MLaw P tt mt kt et ∧ K ((s.ob (cls d) ⟨(s.o (cls d)).gen + 1, .map (zaS tt kt) []⟩).put dst (.row (cls d) ((s.o (cls d)).gen + 1)))
  | _ => False
 | .mapUpdate mt m x v => zF (tt mt) fun td => match td.k, s.ev m with
  | .map kt et, .row id g => MLaw P tt mt kt et ∧ g = (s.o id).gen ∧ match (s.o id).k with
   | .map ks l => ks = zaS tt kt ∧ zF (kyA (s.ev x)) fun ky => ky.ok ks ∧ K ((s.ob id ⟨g, .map ks (zaE l ky (s.ev v))⟩).put dst .junk)
   | _ => False
  | _, _ => False
 | .lookup mt m x c => zF (tt mt) fun td => match td.k, s.ev m with
  | .map kt et, .row id g => MLaw P tt mt kt et ∧ g = (s.o id).gen ∧ match (s.o id).k with
   | .map ks l => ks = zaS tt kt ∧ zF (kyA (s.ev x)) fun ky => ky.ok ks ∧ match zam l ky with
    | some y => K (s.put dst (if c then .tup [y, .t (.b true)] else y))
    | none => K (s.put dst (if c then .tup [zA tt et, .t (.b false)] else zA tt et))
   | _ => False
  | _, _ => False
 | _ => False
def zdO (P : Program) (tt : Tys) (dst : Option Nat) (args : List Operand) (tys : List TypeId) (s : S) (K : S → Prop) : Prop := match args, tys with
 | [m, x], [mt, _] => zF (tt mt) fun td => match td.k, s.ev m with
  | .map kt et, .row id g => MLaw P tt mt kt et ∧ g = (s.o id).gen ∧ match (s.o id).k with
   | .map ks l => ks = zaS tt kt ∧ zF (kyA (s.ev x)) fun ky => ky.ok ks ∧ K ((s.ob id ⟨g, .map ks (zbt l ky)⟩).put dst (.tup []))
   | _ => False
  | _, _ => False
 | _, _ => False
def Ek (P : Program) (Hy : World → Prop) (tt : Tys) (cls : Nat → Nat) (dst : Option Nat) (op : Op) (s : S) (K : S → Prop) : Prop := match op with
 | .box ty x => zF dst fun d => (z7 (s.ev x)).all A.leaf = true ∧ K ((s.ob (cls d) ⟨(s.o (cls d)).gen + 1, .cells ty (z7 (s.ev x))⟩).put dst (.ptr (cls d) ((s.o (cls d)).gen + 1) 0))
 | .alloc ty => zF dst fun d => zF (tt ty) fun td => (td.zero.map zaN).all A.leaf = true ∧ K ((s.ob (cls d) ⟨(s.o (cls d)).gen + 1, .cells ty (td.zero.map zaN)⟩).put dst (.ptr (cls d) ((s.o (cls d)).gen + 1) 0))
 | .store ty x v => zF (tt ty) fun td => match s.ev x with
  | .ptr id g off => g = (s.o id).gen ∧ match (s.o id).k with
   | .cells ty' l => ((z7 (s.ev v)).length = td.size ∧ (z7 (s.ev v)).all A.leaf = true ∧ off + td.size ≤ l.length) ∧ K ((s.ob id ⟨g, .cells ty' (zap l off (z7 (s.ev v)))⟩).put dst .junk)
   | _ => False
  | .rp id g z i off => g = (s.o id).gen ∧ match (s.o id).k with
   | .row ty' z' l => z = z' ∧ frz (zaD s.o) (s.ev v) fun t ids => ids = [] ∧ (zas t).length = td.size ∧ (zas t).all T.leaf = true ∧ zF (l[i]?) fun e => off + td.size ≤ e.length ∧ K ((s.ob id ⟨g, .row ty' z' (l.set i (zap e off (zas t)))⟩).put dst .junk)
   | .rowA ty' z' l => z = z' ∧ ((z7 (s.ev v)).length = td.size ∧ (z7 (s.ev v)).all A.leaf = true) ∧ zF (l[i]?) fun e => off + td.size ≤ e.length ∧ K ((s.ob id ⟨g, .rowA ty' z' (l.set i (zap e off (z7 (s.ev v))))⟩).put dst .junk)
   | _ => False
  | _ => False
 | .makeSlice ty n c => zF dst fun d => zF (tt ty) fun td => match td.k with
  | .slice e => zF (tt e) fun de => match s.ev n, s.ev c, de.zero with
   | .t (.i _ n), .t (.i _ m), [z] => n = m ∧ 0 ≤ n ∧ n ≤ 16777216 ∧ de.size = 1 ∧ de.bytes ≤ 1000 ∧ (match zaN z with
    | .t x => K ((s.ob (cls d) ⟨(s.o (cls d)).gen + 1, .row e 1 (List.replicate n.toNat [x])⟩).put dst (.row (cls d) ((s.o (cls d)).gen + 1)))
    | .nilS => K ((s.ob (cls d) ⟨(s.o (cls d)).gen + 1, .row e 1 (List.replicate n.toNat [.sl []])⟩).put dst (.row (cls d) ((s.o (cls d)).gen + 1)))
    | _ => False)
   | _, _, _ => False
  | _ => False
 | .buildSlice ty n parts => zF dst fun d => zF (tt ty) fun td => match td.k with
  | .slice e => zF (tt e) fun de => if n = 0 then (parts.toList = [] ∧ K ((s.ob (cls d) ⟨(s.o (cls d)).gen + 1, .row e de.size []⟩).put dst (.row (cls d) ((s.o (cls d)).gen + 1)))) else (parts.toList.map (·.1) = List.range n ∧ 0 < de.size ∧ 0 < n ∧ n * de.size ≤ 16777216 ∧ de.zero.length = de.size) ∧
   match (parts.toList.map fun p => s.ev p.2).all A.plain with
   | true => zbc (zaD s.o) (parts.toList.map fun p => s.ev p.2) fun ts ids => ((ts.all fun t => (zas t).length == de.size && (zas t).all T.leaf) = true) ∧ (cls d ∉ ids.map (·.1)) ∧
    K (((s.frz ids).ob (cls d) ⟨((s.frz ids).o (cls d)).gen + 1, .row e de.size (ts.map zas)⟩).put dst (.row (cls d) (((s.frz ids).o (cls d)).gen + 1)))
   | false => ((parts.toList.map fun p => s.ev p.2).all fun x => (z7 x).length == de.size && (z7 x).all A.leaf) = true ∧
    K ((s.ob (cls d) ⟨(s.o (cls d)).gen + 1, .rowA e de.size (parts.toList.map fun p => z7 (s.ev p.2))⟩).put dst (.row (cls d) ((s.o (cls d)).gen + 1)))
  | _ => False
 | .build ty parts => zF dst fun _ => zF (tt ty) fun td => match td.k with
  | .struct fs => zF (zda tt fs) fun pl => zF (zcP (fun i => pl[i]?) (td.zero.map zaN) (parts.toList.map fun p => (p.1, s.ev p.2))) fun l => l.all A.leaf = true ∧ K (s.put dst (.ag l))
  | .array _ e => zF (tt e) fun de => zF (zcP (fun i => some (i * de.size, de.size)) (td.zero.map zaN) (parts.toList.map fun p => (p.1, s.ev p.2))) fun l => l.all A.leaf = true ∧ K (s.put dst (.ag l))
  | _ => False
 | .slice ty x lo hi mx => mx = none ∧ zF dst fun _ => zF (tt ty) fun d => match d.k, s.ev x with
  | .string, .t (.s b) => slB (lo.map s.ev) 0 fun l => slB (hi.map s.ev) b.size fun h => (0 ≤ l ∧ l ≤ h ∧ h ≤ b.size) ∧ K (s.put dst (.t (.s (b.extract l.toNat h.toNat))))
  | .slice e, .t (.sl xs) => zF (tt e) fun de => slB (lo.map s.ev) 0 fun l => slB (hi.map s.ev) xs.length fun h => (0 ≤ l ∧ l ≤ h ∧ h ≤ xs.length) ∧ (∀ c ∈ xs, c.length = de.size) ∧ K (s.put dst (.t (.sl ((xs.drop l.toNat).take (h - l).toNat))))
  | .slice e, .nilS => zF (tt e) fun _ => slB (lo.map s.ev) 0 fun l => slB (hi.map s.ev) 0 fun h => (l = 0 ∧ h = 0) ∧ K (s.put dst .nilS)
  | .slice e, .row id g => g = (s.o id).gen ∧ lo = none ∧ match (s.o id).k with
   | .row e' z l => e' = e ∧ (∃ de, tt e = some de ∧ de.size = z) ∧ slB (hi.map s.ev) l.length fun h => (0 ≤ h ∧ h ≤ l.length) ∧ K ((s.ob id ⟨g + 1, .row e' z (l.take h.toNat)⟩).put dst (.row id (g + 1)))
   | _ => False
  | _, _ => False
 | .makeMap mt r => zbZ P tt cls dst (.makeMap mt r) s K
 | .mapUpdate mt m x v => zbZ P tt cls dst (.mapUpdate mt m x v) s K
 | .insert mt m x v => zbZ P tt cls dst (.mapUpdate mt m x v) s K
 | .lookup mt m x c => zbZ P tt cls dst (.lookup mt m x c) s K
 | .call c => match c.callee with
  | .value (.func f) => zdN P Hy dst f (c.args.toList.map s.ev) s K
  | .value (.tmp t) => match s.ev (.tmp t) with
   | .fn f l m => zdN P Hy dst f (l ++ c.args.toList.map s.ev ++ m) s K
   | _ => False
  | .builtin .append => apK tt cls dst (c.args.toList.map s.ev) c.argTypes.toList s K
  | .builtin .delete => zdO P tt dst c.args.toList c.argTypes.toList s K
  | _ => False
 | _ => False
section
variable {P : Program} {tt : Tys} {Hy : World → Prop} {X : World → (Nat → Prop) → (Nat → O) → (Nat → Value) → Prop} {B : Nat} {St : Nat → Prop} {Dp : List Deferred → Prop} {w0 w : World} {s : S} {ι : Nat → Value} {a : Act}
def UpOk (w : World) (B : Nat) (St : Nat → Prop) (s : S) (ι : Nat → Value) (up : Ups) : Prop :=
 ∀ p ∈ up, ∃ m, p.2 = ⟨(s.o p.1).gen, .ro m⟩ ∧ ∀ D' : Nat → Prop, (∀ g, Sd B St s.o ι w g → D' g) → (∀ q ∈ up, ∀ g, mb s.o ι q.1 = some g → D' g) → Rt w D' (ι p.1) (.sl m)
def Fz (w : World) (B : Nat) (St : Nat → Prop) (s : S) (ι : Nat → Value) (up : Ups) (v : Value) (t : T) : Prop :=
 ∀ D' : Nat → Prop, (∀ g, Sd B St s.o ι w g → D' g) → (∀ q ∈ up, ∀ g, mb s.o ι q.1 = some g → D' g) → Rt w D' v t
theorem UpOk.nil : UpOk w B St s ι [] := fun _ h => by cases h
theorem UpOk.app {a b : Ups} (h : UpOk w B St s ι a) (k : UpOk w B St s ι b) : UpOk w B St s ι (a ++ b) := fun p hp => by
 rcases List.mem_append.1 hp with hp | hp
 ·obtain ⟨m, h1, h2⟩ := h p hp
  exact ⟨m, h1, fun D' hd hq => h2 D' hd (fun q hqm => hq q (List.mem_append_left _ hqm))⟩
 ·obtain ⟨m, h1, h2⟩ := k p hp
  exact ⟨m, h1, fun D' hd hq => h2 D' hd (fun q hqm => hq q (List.mem_append_right _ hqm))⟩
theorem Fz.left {a b : Ups} {v : Value} {t : T} (h : Fz w B St s ι a v t) : Fz w B St s ι (a ++ b) v t := fun D' hd hq => h D' hd (fun q hqm => hq q (List.mem_append_left _ hqm))
theorem Fz.right {a b : Ups} {v : Value} {t : T} (h : Fz w B St s ι b v t) : Fz w B St s ι (a ++ b) v t := fun D' hd hq => h D' hd (fun q hqm => hq q (List.mem_append_right _ hqm))
theorem Rt.wide {w : World} {D D' : Nat → Prop} {v : Value} {t : T} (h : Rt w D v t) (hd : ∀ g, D g → D' g) : Rt w D' v t := h.mono (fun g hg => ⟨hd g hg, rfl⟩)
theorem zhs {l : List (List T)} {ty z : Nat} {v : Value} {xs : List Value} {D' : Nat → Prop} (h1 : ∀ e ∈ l, e.length = z) (h2 : w.ownsRow B ty z v l.length xs) (h3 : ∀ (j : Nat) y, l.flatten[j]? = some y → ∃ c, xs[j]? = some c ∧ y.leaf = true ∧ Rt w D' c y)
  (hm : ∀ g, Value.blk v = some g → D' g) : Rt w D' v (.sl l) := by
 have hx := h2
 rcases h2.2 with ⟨h4, h5⟩ | ⟨g, cap, cur, hv, hb2, hg2, rest⟩
 ·obtain rfl : l = [] := List.length_eq_zero_iff.1 h5
  rw [h4]
  exact .sl0 _ _ (fun _ => rfl)
 ·rw [hv] at hx hm ⊢
  refine .sl g 0 _ cap z l (fun j => xs.getD j undef) rfl rest.1 (hm g rfl) h1 (fun j hj => ?_) (fun j t ht => ?_) (fun j t ht => ?_)
  ·rw [Nat.zero_add, hx.cellAt j hj]
   have : j < xs.length := by rw [hx.1]; exact hj
   simp [this]
  ·obtain ⟨c, _, hl, _⟩ := h3 j t ht
   exact hl
  ·obtain ⟨c, hc, _, hr⟩ := h3 j t ht
   rw [show xs.getD j undef = c by simp [hc]]
   exact hr
theorem zdP {l : List (List T)} {ty z : Nat} (h : Rel Hy X B St w0 Dp s ι a w) {id : Nat} (hk : (s.o id).k = .row ty z l) {D' : Nat → Prop} (hd : ∀ g, Sd B St s.o ι w g → D' g) (hm : ∀ g, mb s.o ι id = some g → D' g) : Rt w D' (ι id) (.sl l) := by
 have ho := h.ob id
 rw [hk] at ho
 obtain ⟨h1, xs, h2, h3⟩ := ho
 refine zhs h1 h2 (fun j y hy => ?_) (fun g hg => hm g (by unfold mb; rw [hk]; exact hg))
 obtain ⟨c, hc, hl, hr⟩ := h3 j y hy
 exact ⟨c, hc, hl, hr.wide hd⟩
theorem zkM (h : Rel Hy X B St w0 Dp s ι a w) {v : Value} {x : A} (hx : Ra w (Sd B St s.o ι w) s.o ι v x) {K : T → Ups → Prop} (hk : frz0 s.o x K) : ∃ t up, UpOk w B St s ι up ∧ Fz w B St s ι up v t ∧ (x.leaf = true → t.leaf = true) ∧ K t up := by
 unfold frz0 at hk
 split at hk
 ·exact ⟨_, _, .nil, fun D' hd _ => hx.dat.wide hd, fun h => h, hk⟩
 ·rw [hx.nil_get]
  exact ⟨_, _, .nil, fun D' hd _ => .sl0 _ _ (fun _ => rfl), fun _ => rfl, hk⟩
 ·rename_i id g
  obtain ⟨hg, hk⟩ := hk
  have hv := hx.row_get hg
  split at hk
  ·rename_i ty z l hkk
   refine ⟨_, _, fun p hp => ?_, fun D' hd hm => ?_, fun _ => rfl, hk⟩
   ·obtain rfl := List.mem_singleton.1 hp
    exact ⟨l, by rw [hg], fun D' hd hm => zdP h hkk hd (hm _ List.mem_cons_self)⟩
   ·rw [hv]
    exact zdP h hkk hd (hm _ List.mem_cons_self)
  ·rename_i l hkk
   refine ⟨_, _, .nil, fun D' hd _ => ?_, fun _ => rfl, hk⟩
   have ho := h.ob id
   rw [hkk] at ho
   rw [hv]
   exact Rt.wide ho hd
  ·exact hk.elim
 ·exact hk.elim
theorem zht (h : Rel Hy X B St w0 Dp s ι a w) : ∀ (l : List A) (c : Nat → Value) {K : List T → Ups → Prop}, (∀ (j : Nat) x, l[j]? = some x → Ra w (Sd B St s.o ι w) s.o ι (c j) x) → frzC0 s.o l K →
  ∃ ts up, UpOk w B St s ι up ∧ ts.length = l.length ∧ (∀ (j : Nat) t, ts[j]? = some t → t.leaf = true ∧ Fz w B St s ι up (c j) t) ∧ K ts up
 | [], c, K, _, hk => ⟨[], [], .nil, rfl, fun j t ht => (by simp at ht), hk⟩
 | x :: l, c, K, hc, hk => by
  obtain ⟨hl, hk⟩ := hk
  obtain ⟨t, i, f1, f2, f3, hk⟩ := zkM h (hc 0 x rfl) hk
  obtain ⟨ts, is, g1, g2, g3, hk⟩ := zht h l (fun j => c (j + 1)) (fun j x hx => hc (j + 1) x (by simpa using hx)) hk
  refine ⟨t :: ts, i ++ is, f1.app g1, by simp [g2], fun j t' ht => ?_, hk⟩
  cases j with
  | zero =>
   simp only [List.getElem?_cons_zero, Option.some.injEq] at ht
   subst ht
   exact ⟨f3 hl, f2.left⟩
  | succ j =>
   simp only [List.getElem?_cons_succ] at ht
   obtain ⟨h1, h2⟩ := g3 j t' ht
   exact ⟨h1, h2.right⟩
theorem zhu (h : Rel Hy X B St w0 Dp s ι a w) {z : Nat} : ∀ (l : List (List A)) (c : Nat → Value) {K : List (List T) → Ups → Prop}, (∀ e ∈ l, e.length = z) → (∀ (j : Nat) x, l.flatten[j]? = some x → Ra w (Sd B St s.o ι w) s.o ι (c j) x) → frzE s.o l K →
  ∃ m up, UpOk w B St s ι up ∧ m.length = l.length ∧ (∀ e ∈ m, e.length = z) ∧ (∀ (j : Nat) t, m.flatten[j]? = some t → t.leaf = true ∧ Fz w B St s ι up (c j) t) ∧ K m up
 | [], c, K, _, _, hk => ⟨[], [], .nil, rfl, fun _ h => (by cases h), fun j t ht => (by simp at ht), hk⟩
 | e :: l, c, K, hz, hc, hk => by
  have he := hz e List.mem_cons_self
  obtain ⟨t, i, f1, f2, f3, hk⟩ := zht h e c (fun j x hx => hc j x (by rw [List.flatten_cons, List.getElem?_append_left (List.getElem?_eq_some_iff.1 hx).1]; exact hx)) hk
  obtain ⟨ts, is, g1, g2, g3, g4, hk⟩ := zhu h (z := z) l (fun j => c (e.length + j)) (fun x hx => hz x (List.mem_cons_of_mem _ hx)) (fun j x hx => hc (e.length + j) x (by rw [List.flatten_cons, List.getElem?_append_right (by omega), Nat.add_sub_cancel_left]; exact hx)) hk
  refine ⟨t :: ts, i ++ is, f1.app g1, by simp [g2], fun x hx => ?_, fun j t' ht => ?_, hk⟩
  ·rcases List.mem_cons.1 hx with rfl | hx
   ·rw [f2, he]
   ·exact g3 x hx
  ·rw [List.flatten_cons] at ht
   by_cases hj : j < t.length
   ·rw [List.getElem?_append_left hj] at ht
    obtain ⟨h1, h2⟩ := f3 j t' ht
    exact ⟨h1, h2.left⟩
   ·rw [List.getElem?_append_right (by omega)] at ht
    obtain ⟨h1, h2⟩ := g4 _ t' ht
    rw [show e.length + (j - t.length) = j by omega] at h2
    exact ⟨h1, h2.right⟩
theorem zhv (h : Rel Hy X B St w0 Dp s ι a w) {v : Value} {x : A} (hx : Ra w (Sd B St s.o ι w) s.o ι v x) {K : T → Ups → Prop} (hk : frz1 s.o x K) : ∃ t up, UpOk w B St s ι up ∧ Fz w B St s ι up v t ∧ (x.leaf = true → t.leaf = true) ∧ K t up := by
 unfold frz1 at hk
 split at hk
 ·exact ⟨_, _, .nil, fun D' hd _ => hx.dat.wide hd, fun h => h, hk⟩
 ·rw [hx.nil_get]
  exact ⟨_, _, .nil, fun D' hd _ => .sl0 _ _ (fun _ => rfl), fun _ => rfl, hk⟩
 ·rename_i id g
  obtain ⟨hg, hk⟩ := hk
  have hv := hx.row_get hg
  split at hk
  ·rename_i ty z l hkk
   refine ⟨_, _, fun p hp => ?_, fun D' hd hm => ?_, fun _ => rfl, hk⟩
   ·obtain rfl := List.mem_singleton.1 hp
    exact ⟨l, by rw [hg], fun D' hd hm => zdP h hkk hd (hm _ List.mem_cons_self)⟩
   ·rw [hv]
    exact zdP h hkk hd (hm _ List.mem_cons_self)
  ·rename_i l hkk
   refine ⟨_, _, .nil, fun D' hd _ => ?_, fun _ => rfl, hk⟩
   have ho := h.ob id
   rw [hkk] at ho
   rw [hv]
   exact Rt.wide ho hd
  ·rename_i ty z l hkk
   have ho := h.ob id
   rw [hkk] at ho
   obtain ⟨h1, xs, h2, h3⟩ := ho
   obtain ⟨m, up, g1, g2, g3, g4, hk⟩ := zhu h l (fun j => xs.getD j undef) h1 (fun j x hx => by
    obtain ⟨c, hc, _, hr⟩ := h3 j x hx
    rw [show xs.getD j undef = c by simp [hc]]
    exact hr) hk
   have key : ∀ D' : Nat → Prop, (∀ g, Sd B St s.o ι w g → D' g) → (∀ q ∈ up ++ [(id, (⟨g, .ro m⟩ : O))], ∀ g, mb s.o ι q.1 = some g → D' g) → Rt w D' (ι id) (.sl m) := fun D' hd hq => by
    refine zhs (B := B) (ty := ty) (z := z) (xs := xs) g3 (by rw [g2]; exact h2) (fun j y hy => ?_) (fun b hb => hq _ (List.mem_append_right _ List.mem_cons_self) b (by unfold mb; rw [hkk]; exact hb))
    obtain ⟨hl, hf⟩ := g4 j y hy
    have hj : j < xs.length := by
     have := (List.getElem?_eq_some_iff.1 hy).1
     rw [zbh g3, g2] at this
     rw [h2.1]; exact this
    refine ⟨xs[j], List.getElem?_eq_getElem hj, hl, ?_⟩
    have := hf D' hd (fun q hqm => hq q (List.mem_append_left _ hqm))
    rwa [show xs.getD j undef = xs[j] by simp [hj]] at this
   refine ⟨_, _, fun p hp => ?_, fun D' hd hq => by rw [hv]; exact key D' hd hq, fun _ => rfl, hk⟩
   rcases List.mem_append.1 hp with hp | hp
   ·obtain ⟨m', q1, q2⟩ := g1 p hp
    exact ⟨m', q1, fun D' hd hq => q2 D' hd (fun q hqm => hq q (List.mem_append_left _ hqm))⟩
   ·obtain rfl := List.mem_singleton.1 hp
    exact ⟨m, by rw [hg], key⟩
  ·exact hk.elim
 ·exact hk.elim
theorem zhw (h : Rel Hy X B St w0 Dp s ι a w) : ∀ (l : List A) (c : Nat → Value) {K : List T → Ups → Prop}, (∀ (j : Nat) x, l[j]? = some x → Ra w (Sd B St s.o ι w) s.o ι (c j) x) → frzC s.o l K →
  ∃ ts up, UpOk w B St s ι up ∧ ts.length = l.length ∧ (∀ (j : Nat) t, ts[j]? = some t → t.leaf = true ∧ Fz w B St s ι up (c j) t) ∧ K ts up
 | [], c, K, _, hk => ⟨[], [], .nil, rfl, fun j t ht => (by simp at ht), hk⟩
 | x :: l, c, K, hc, hk => by
  obtain ⟨hl, hk⟩ := hk
  obtain ⟨t, i, f1, f2, f3, hk⟩ := zhv h (hc 0 x rfl) hk
  obtain ⟨ts, is, g1, g2, g3, hk⟩ := zhw h l (fun j => c (j + 1)) (fun j x hx => hc (j + 1) x (by simpa using hx)) hk
  refine ⟨t :: ts, i ++ is, f1.app g1, by simp [g2], fun j t' ht => ?_, hk⟩
  cases j with
  | zero =>
   simp only [List.getElem?_cons_zero, Option.some.injEq] at ht
   subst ht
   exact ⟨f3 hl, f2.left⟩
  | succ j =>
   simp only [List.getElem?_cons_succ] at ht
   obtain ⟨h1, h2⟩ := g3 j t' ht
   exact ⟨h1, h2.right⟩
theorem zfo (h : Rel Hy X B St w0 Dp s ι a w) {v : Value} {x : A} (hx : Ra w (Sd B St s.o ι w) s.o ι v x) {K : T → Ups → Prop} (hk : frz s.o x K) : ∃ t up, UpOk w B St s ι up ∧ Fz w B St s ι up v t ∧ K t up := by
 unfold frz at hk
 split at hk
 ·rename_i l
  cases hx with
  | ag cs l c hz hc hl hr =>
  obtain ⟨ts, up, g1, g2, g3, hk⟩ := zhw h l c hr hk
  refine ⟨_, _, g1, fun D' hd hm => ?_, hk⟩
  exact .ag cs ts c (by rw [hz, g2]) (fun j hj => hc j (by omega)) (fun j t ht => (g3 j t ht).1) (fun j t ht => (g3 j t ht).2 D' hd hm)
 ·exact ⟨_, _, .nil, fun D' hd _ => hx.dat.wide hd, hk⟩
 ·rw [hx.nil_get]
  exact ⟨_, _, .nil, fun D' hd _ => .sl0 _ _ (fun _ => rfl), hk⟩
 ·obtain ⟨t, up, h1, h2, _, h3⟩ := zhv h hx hk
  exact ⟨t, up, h1, h2, h3⟩
 ·exact hk.elim
theorem zcQ (h : Rel Hy X B St w0 Dp s ι a w) : ∀ (l : List A) (c : Nat → Value) {K : List T → Ups → Prop}, (∀ (j : Nat) x, l[j]? = some x → Ra w (Sd B St s.o ι w) s.o ι (c j) x) → zbc s.o l K →
  ∃ ts up, UpOk w B St s ι up ∧ ts.length = l.length ∧ (∀ (j : Nat) t, ts[j]? = some t → Fz w B St s ι up (c j) t) ∧ K ts up
 | [], c, K, _, hk => ⟨[], [], .nil, rfl, fun j t ht => (by simp at ht), hk⟩
 | x :: l, c, K, hc, hk => by
  obtain ⟨t, i, f1, f2, hk⟩ := zfo h (hc 0 x rfl) hk
  obtain ⟨ts, is, g1, g2, g3, hk⟩ := zcQ h l (fun j => c (j + 1)) (fun j x hx => hc (j + 1) x (by simpa using hx)) hk
  refine ⟨t :: ts, i ++ is, f1.app g1, by simp [g2], fun j t' ht => ?_, hk⟩
  cases j with
  | zero =>
   simp only [List.getElem?_cons_zero, Option.some.injEq] at ht
   subst ht
   exact f2.left
  | succ j =>
   simp only [List.getElem?_cons_succ] at ht
   exact (g3 j t' ht).right
theorem zen (s : S) (up : Ups) : (s.frz up).t = s.t ∧ (s.frz up).n = s.n := by
 induction up generalizing s with
 | nil => exact ⟨rfl, rfl⟩
 | cons p up ih => exact ih (s.ob p.1 p.2)
theorem zeo (up : Ups) (id : Nat) : ∀ s : S, id ∉ up.map (·.1) → (s.frz up).o id = s.o id := by
 induction up with
 | nil => intro s _; rfl
 | cons p up ih =>
  intro s h
  rw [List.map_cons, List.mem_cons, not_or] at h
  show ((s.ob p.1 p.2).frz up).o id = _
  rw [ih _ h.2]
  exact if_neg h.1
theorem zkN (up : Ups) (id : Nat) : ∀ s : S, id ∈ up.map (·.1) → ∃ x, (id, x) ∈ up ∧ (s.frz up).o id = x := by
 induction up with
 | nil => intro s h; cases h
 | cons p up ih =>
  intro s h
  show ∃ x, (id, x) ∈ p :: up ∧ ((s.ob p.1 p.2).frz up).o id = x
  by_cases hin : id ∈ up.map (·.1)
  ·obtain ⟨x, h1, h2⟩ := ih (s.ob p.1 p.2) hin
   exact ⟨x, List.mem_cons_of_mem _ h1, h2⟩
  ·rw [List.map_cons] at h
   have e : id = p.1 := (List.mem_cons.1 h).resolve_right hin
   refine ⟨p.2, ?_, ?_⟩
   ·rw [e]; exact List.mem_cons_self
   ·rw [zeo up id _ hin]
    exact if_pos e
theorem Rel.frz (h : Rel Hy X B St w0 Dp s ι a w) {up : Ups} (hu : UpOk w B St s ι up) : Rel Hy X B St w0 Dp (s.frz up) ι a w ∧ (∀ g, Sd B St s.o ι w g → Sd B St (s.frz up).o ι w g) ∧ ∀ p ∈ up, ∀ g, mb s.o ι p.1 = some g → Sd B St (s.frz up).o ι w g := by
 have get : ∀ id, (id ∉ up.map (·.1) ∧ (s.frz up).o id = s.o id) ∨ (id ∈ up.map (·.1) ∧ ∃ m, (s.frz up).o id = ⟨(s.o id).gen, .ro m⟩ ∧ ∀ D' : Nat → Prop, (∀ g, Sd B St s.o ι w g → D' g) → (∀ q ∈ up, ∀ g, mb s.o ι q.1 = some g → D' g) → Rt w D' (ι id) (.sl m)) := fun id => by
  by_cases hin : id ∈ up.map (·.1)
  ·obtain ⟨x, h1, h2⟩ := zkN up id s hin
   obtain ⟨m, h3, h4⟩ := hu _ h1
   exact .inr ⟨hin, m, by rw [h2]; exact h3, h4⟩
  ·exact .inl ⟨hin, zeo up id s hin⟩
 have hmb : ∀ i b, mb (s.frz up).o ι i = some b → mb s.o ι i = some b ∧ i ∉ up.map (·.1) := fun i b e => by
  rcases get i with ⟨h1, h2⟩ | ⟨_, m, h2, _⟩
  ·unfold mb at e ⊢
   rw [h2] at e
   exact ⟨e, h1⟩
  ·unfold mb at e
   rw [h2] at e
   cases e
 have hsd : ∀ g, Sd B St s.o ι w g → Sd B St (s.frz up).o ι w g := fun g hg => ⟨hg.1, hg.2.1, fun i e => hg.2.2 i (hmb i g e).1⟩
 have hrow : ∀ p ∈ up, ∀ g, mb s.o ι p.1 = some g → Sd B St (s.frz up).o ι w g := fun p hp g hg => by
  refine ⟨.inr (h.mbB hg).1, (h.mbB hg).2, fun i e => ?_⟩
  obtain ⟨e1, e2⟩ := hmb i g e
  have := h.inj _ _ _ e1 hg
  subst this
  exact e2 (List.mem_map.2 ⟨p, hp, rfl⟩)
 have hk : ∀ g, Sd B St s.o ι w g → Sd B St (s.frz up).o ι w g ∧ w.heap[g]? = w.heap[g]? := fun g hg => ⟨hsd g hg, rfl⟩
 have hgs : ∀ i, (s.o i).gen ≤ ((s.frz up).o i).gen ∧ ((s.o i).gen = ((s.frz up).o i).gen → ι i = ι i) := fun i => by
  refine ⟨?_, fun _ => rfl⟩
  rcases get i with ⟨_, h2⟩ | ⟨_, m, h2, _⟩
  ·rw [h2]; exact Nat.le_refl _
  ·rw [h2]; exact Nat.le_refl _
 have mT : ∀ (v : Value) (t : T), Rt w (Sd B St s.o ι w) v t → Rt w (Sd B St (s.frz up).o ι w) v t := fun v t ht => ht.mono hk
 have mA : ∀ (v : Value) (z : A), Ra w (Sd B St s.o ι w) s.o ι v z → Ra w (Sd B St (s.frz up).o ι w) (s.frz up).o ι v z := fun v z hz => hz.mono hk hgs
 refine ⟨⟨h.below, h.hB, fun id => ?_, fun i j b e1 e2 => h.inj _ _ _ (hmb i b e1).1 (hmb j b e2).1, fun t v e => ?_, h.dv, h.sz.trans (zen s up).2.symm, h.stB, h.hy, (by obtain ⟨N, L, _, n2, _⟩ := h.xd; exact n2 _ _ _ _ _ _ _ _ mT mA (Nat.le_refl _) (fun _ _ _ _ e => e) h.x), h.xd⟩, hsd, hrow⟩
 ·rcases get id with ⟨_, h2⟩ | ⟨_, m, h2, h3⟩
  ·rw [h2]
   have hob := h.ob id
   cases hkk : (s.o id).k with
   | none => exact trivial
   | ro l => rw [hkk] at hob; exact mT _ _ hob
   | cells ty l =>
    rw [hkk] at hob
    obtain ⟨blk, cs, h1, h2, h3, h4, h5⟩ := hob
    refine ⟨blk, cs, h1, h2, h3, h4, fun j y hy => ?_⟩
    obtain ⟨c, hc, hl, hr⟩ := h5 j y hy
    exact ⟨c, hc, hl, mA _ _ hr⟩
   | row ty z l =>
    rw [hkk] at hob
    obtain ⟨h1, xs, h2, h3⟩ := hob
    refine ⟨h1, xs, h2, fun j y hy => ?_⟩
    obtain ⟨c, hc, hl, hr⟩ := h3 j y hy
    exact ⟨c, hc, hl, mT _ _ hr⟩
   | rowA ty z l =>
    rw [hkk] at hob
    obtain ⟨h1, xs, h2, h3⟩ := hob
    refine ⟨h1, xs, h2, fun j y hy => ?_⟩
    obtain ⟨c, hc, hl, hr⟩ := h3 j y hy
    exact ⟨c, hc, hl, mA _ _ hr⟩
   | map ks l =>
    rw [hkk] at hob
    obtain ⟨blk, es, ck, h1, h2, h3, h4, h5, h6, h7⟩ := hob
    refine ⟨blk, es, ck, h1, h2, ?_, h4, h5, h6, fun j y hy => ?_⟩
    ·exact h3
    ·obtain ⟨c, hc, hk2, hl, hr⟩ := h7 j y hy
     exact ⟨c, hc, hk2, hl, mA _ _ hr⟩
  ·rw [h2]
   exact h3 _ hsd hrow
 ·rw [(zen s up).1]
  exact mA _ _ (h.tm t v e)
theorem Fz.rt {up : Ups} {v : Value} {t : T} (h : Rel Hy X B St w0 Dp s ι a w) (hu : UpOk w B St s ι up) (hf : Fz w B St s ι up v t) : Rt w (Sd B St (s.frz up).o ι w) v t := by
 obtain ⟨_, k2, k3⟩ := h.frz hu
 exact hf _ k2 k3
theorem zkO {w w' : World} {D D' : Nat → Prop} {v : Value} {t : T} (hf : t.flat = true) (h : Rt w D v t) : Rt w' D' v t := by
 cases h <;> first | exact .b _ | exact .i _ _ | exact .s _ | cases hf
theorem zhx {w : World} {D : Nat → Prop} {o : Nat → O} {v : Value} {r : List T} (h : Rres w D v r) : Ra w D o ι v (zcu r) := by
 unfold Rres at h
 unfold zcu
 split at h
 ·exact .t h
 ·obtain ⟨cs, c, rfl, h1, h2, h3⟩ := h
  refine .tup cs _ c (by simpa using h1) (fun j hj => h2 j (by simpa using hj)) (fun j x hx => ?_)
  rw [List.getElem?_map] at hx
  obtain ⟨t, ht, rfl⟩ := Option.map_eq_some_iff.1 hx
  exact .t (h3 j t ht)
theorem Rres.imp {w w' : World} {D D' : Nat → Prop} {v : Value} {r : List T} (h : Rres w D v r) (hi : ∀ v t, t ∈ r → Rt w D v t → Rt w' D' v t) : Rres w' D' v r := by
 unfold Rres at h ⊢
 split at h
 ·exact hi _ _ List.mem_cons_self h
 ·obtain ⟨cs, c, e, h1, h2, h3⟩ := h
  exact ⟨cs, c, e, h1, h2, fun j x hx => hi _ _ (List.mem_of_getElem? hx) (h3 j x hx)⟩
def Alike (w : World) (D : Nat → Prop) (o : Nat → O) (ι : Nat → Value) (cs : Array Value) (l : List A) : Prop := cs.size = l.length ∧ ∀ (j : Nat) x, l[j]? = some x → ∃ c, cs[j]? = some c ∧ Ra w D o ι c x
theorem Alike.app {D : Nat → Prop} {o : Nat → O} {cs ds : Array Value} {l m : List A} (h : Alike w D o ι cs l) (k : Alike w D o ι ds m) : Alike w D o ι (cs ++ ds) (l ++ m) := by
 refine ⟨by simp [h.1, k.1], fun j x hx => ?_⟩
 by_cases hj : j < l.length
 ·rw [List.getElem?_append_left hj] at hx
  rw [Array.getElem?_append_left (by rw [h.1]; exact hj)]
  exact h.2 j x hx
 ·rw [List.getElem?_append_right (Nat.le_of_not_lt hj)] at hx
  rw [Array.getElem?_append_right (by rw [h.1]; exact Nat.le_of_not_lt hj), h.1]
  exact k.2 _ x hx
theorem Rel.alike (h : Rel Hy X B St w0 Dp s ι a w) (args : Array Operand) : Alike w (Sd B St s.o ι w) s.o ι (args.map a.eval) (args.toList.map s.ev) := by
 refine ⟨by simp, fun j x hx => ?_⟩
 rw [List.getElem?_map] at hx
 obtain ⟨y, hy, rfl⟩ := Option.map_eq_some_iff.1 hx
 have hy2 : args[j]? = some y := by simpa using hy
 exact ⟨_, by rw [Array.getElem?_map, hy2]; rfl, h.ev y⟩
theorem zhy (h : Rel Hy X B St w0 Dp s ι a w) {Q : Exit → Act → World → Prop} {dst : Option Nat} {f : FuncId} {L : List A} {cargs : Array Value} {K : S → Prop} {K' : Act → World → Prop}
  (hs : ∀ s ι a w, Rel Hy X B St w0 Dp s ι a w → K s → K' a w) (hsz : cargs.size = L.length) (hL : ∀ (j : Nat) x, L[j]? = some x → Ra w (Sd B St s.o ι w) s.o ι (cargs.getD j undef) x)
  (hk : zbc s.o L fun ts ids => ∃ r, Ct P Hy f ts r ∧ K ((if r.all T.flat then s else s.frz ids).put dst (zcu r))) :
  (∃ fn, P.funcs[f]? = some fn ∧ fn.name ≠ "runtime.NumGoroutine" ∧ fn.body ≠ none) ∧
  Calls P f cargs w fun | .returned v, w'' => K' (a.put dst v) w'' | .panicked chain, w'' => Q (.panic chain) a w'' | .outgrown, _ => LetsOut Q := by
 obtain ⟨ts, ids, g1, g2, g3, r, hct, hk⟩ := zcQ h L (fun j => cargs.getD j undef) hL hk
 obtain ⟨k1, k2, k3⟩ := h.frz g1
 refine ⟨hct.fn, (hct.go w _ (Sd B St (s.frz ids).o ι w) (fun g hg => hg.2.1) (fun w' hw => h.hy w' (h.below.trans (hw.mono h.hB))) (by rw [hsz, g2]) (fun j v t hv ht => ?_)).mono ?_⟩
 ·have : cargs.getD j undef = v := by simp [Array.getD_eq_getD_getElem?, hv]
  rw [← this]
  exact (g3 j t ht).rt h g1
 ·rintro e w' ⟨v, rfl, hr, hb⟩
  by_cases hfl : r.all T.flat = true
  ·rw [if_pos hfl] at hk
   refine hs _ ι _ _ (h.keep hb dst (zcu r) v (fun _ => ?_)) hk
   exact zhx (hr.imp (fun v t ht => zkO (List.all_eq_true.1 hfl t ht)))
  ·rw [if_neg hfl] at hk
   refine hs _ ι _ _ (k1.keep hb dst (zcu r) v (fun _ => ?_)) hk
   refine zhx (hr.imp (fun v t _ ht => ht.wide (fun g hg => ?_)))
   rcases hg with hg | hg
   ·exact ⟨hg.1, Nat.lt_of_lt_of_le hg.2.1 hb.size, hg.2.2⟩
   ·exact ⟨.inr (Nat.le_trans h.hB hg.1), hg.2, fun i e => absurd (k1.mbB e).2 (Nat.not_lt.2 hg.1)⟩
theorem zkP (h : Rel Hy X B St w0 Dp s ι a w) {Q : Exit → Act → World → Prop} {dst : Option Nat} {f : FuncId} {args : List Operand} {K : S → Prop} {K' : Act → World → Prop}
  (hs : ∀ s ι a w, Rel Hy X B St w0 Dp s ι a w → K s → K' a w)
  (hk : zbc s.o (args.map s.ev) fun ts ids => ∃ r, Ct P Hy f ts r ∧ K ((if r.all T.flat then s else s.frz ids).put dst (zcu r))) :
  (∃ fn, P.funcs[f]? = some fn ∧ fn.name ≠ "runtime.NumGoroutine" ∧ fn.body ≠ none) ∧
  Calls P f (args.map a.eval).toArray w fun | .returned v, w'' => K' (a.put dst v) w'' | .panicked chain, w'' => Q (.panic chain) a w'' | .outgrown, _ => LetsOut Q :=
 zhy h hs (by simp) (fun j x hx => by
  rw [List.getElem?_map] at hx
  obtain ⟨x0, h0, rfl⟩ := Option.map_eq_some_iff.1 hx
  rw [show (args.map a.eval).toArray.getD j undef = a.eval x0 by simp [Array.getD_eq_getD_getElem?, h0]]
  exact h.ev x0) hk
theorem zhz (h : Rel Hy X B St w0 Dp s ι a w) (id : Nat) (ty : TypeId) (l : List A) (cs : Array Value) (hz : cs.size = l.length) (hl : l.all A.leaf = true)
  (hc : ∀ (j : Nat) y, l[j]? = some y → ∃ c, cs[j]? = some c ∧ Ra w (Sd B St s.o ι w) s.o ι c y) (d : Option Nat) :
  ∃ ι', Rel Hy X B St w0 Dp ((s.ob id ⟨(s.o id).gen + 1, .cells ty l⟩).put d (.ptr id ((s.o id).gen + 1) 0)) ι' (a.put d (.pointer (some ⟨w.heap.size, 0, none⟩))) (w.alloc (.cells cs ty)) := by
 refine ⟨fun i => if i = id then .pointer (some ⟨w.heap.size, 0, none⟩) else ι i, Rel.next h id _ (.pointer (some ⟨w.heap.size, 0, none⟩)) d _ _ ?_ (fun i hi => if_neg hi) (if_pos rfl) (Nat.le_succ _) (fun e => absurd e (Nat.ne_of_lt (Nat.lt_succ_self _))) (fun b hb _ => Below.heap_alloc _ _ _ hb) (fun b e => ?_) (fun mT mA => ?_) (fun mT mA _ => ?_)⟩
 ·exact (Below.refl B w).alloc h.hB _
 ·unfold mb at e
  rw [show (s.ob id ⟨(s.o id).gen + 1, .cells ty l⟩).o id = ⟨(s.o id).gen + 1, .cells ty l⟩ from if_pos rfl] at e
  simp only [if_true, Value.blk, Option.some.injEq] at e
  exact .inr (Nat.le_of_eq e)
 ·refine ⟨w.heap.size, cs, rfl, h.hB, heap_alloc_new w _, hz, fun j y hy => ?_⟩
  obtain ⟨c, h1, h2⟩ := hc j y hy
  exact ⟨c, h1, List.all_eq_true.1 hl y (List.mem_of_getElem? hy), mA _ _ h2⟩
 ·refine .ptr ?_ (fun _ => ⟨w.heap.size, if_pos rfl, rfl⟩) rfl
  rw [show (s.ob id ⟨(s.o id).gen + 1, .cells ty l⟩).o id = ⟨(s.o id).gen + 1, .cells ty l⟩ from if_pos rfl]
  exact Nat.le_refl _
theorem zdb {D : Nat → Prop} {o : Nat → O} {v : Value} {x : A} (h : Ra w D o ι v x) (hl : (z7 x).all A.leaf = true) : v.cells.size = (z7 x).length ∧ ∀ (j : Nat) y, (z7 x)[j]? = some y → ∃ c, v.cells[j]? = some c ∧ Ra w D o ι c y := by
 have one : ∀ {v : Value} {x : A}, v.cells = #[v] → z7 x = [x] → Ra w D o ι v x → v.cells.size = (z7 x).length ∧ ∀ (j : Nat) y, (z7 x)[j]? = some y → ∃ c, v.cells[j]? = some c ∧ Ra w D o ι c y := fun {v x} e1 e2 hr => by
  rw [e1, e2]
  refine ⟨rfl, fun j y hy => ?_⟩
  cases j with
  | zero => cases hy; exact ⟨v, rfl, hr⟩
  | succ j => simp at hy
 have vone : ∀ {v : Value}, v.oneCell' = true → v.cells = #[v] := fun {v} hv => by cases v <;> first | rfl | cases hv
 cases h with
 | t h =>
  cases h with
  | ag cs l c hz hc hl2 hr =>
   refine ⟨by simpa [z7, Value.cells] using hz, fun j y hy => ?_⟩
   simp only [z7, List.getElem?_map] at hy
   obtain ⟨t, ht, rfl⟩ := Option.map_eq_some_iff.1 hy
   exact ⟨c j, hc j (List.getElem?_eq_some_iff.1 ht).1, .t (hr j t ht)⟩
  | b x => exact one rfl rfl (.t (.b x))
  | i k n => exact one rfl rfl (.t (.i k n))
  | s x => exact one rfl rfl (.t (.s x))
  | sl0 p c hp => exact one rfl rfl (.t (.sl0 p c hp))
  | sl g o n cap z l c hn hq hD hz hc hl2 hr => exact one rfl rfl (.t (.sl g o n cap z l c hn hq hD hz hc hl2 hr))
  | cp blk off l c hD hc hl2 hr => exact one rfl rfl (.t (.cp blk off l c hD hc hl2 hr))
  | ifc ty v x h => exact one rfl rfl (.t (.ifc ty v x h))
  | nif => exact one rfl rfl (.t .nif)
  | np => exact one rfl rfl (.t .np)
  | nfn => exact one rfl rfl (.t .nfn)
  | nmp => exact one rfl rfl (.t .nmp)
  | yl l => exact one rfl rfl (.t (.yl l))
 | ptr h1 h2 h3 => exact one (vone h3) rfl (.ptr h1 h2 h3)
 | row h1 h2 h3 => exact one (vone h3) rfl (.row h1 h2 h3)
 | ifc ty v x h => exact one rfl rfl (.ifc ty v x h)
 | ag cs l c hz hc hl2 hr => exact ⟨hz, fun j y hy => ⟨c j, hc j (List.getElem?_eq_some_iff.1 hy).1, hr j y hy⟩⟩
 | nilS => exact one rfl rfl .nilS
 | fn f cs ds l m c d hz hc h kz kc k => exact one rfl rfl (.fn f cs ds l m c d hz hc h kz kc k)
 | rp => simp [z7, A.leaf] at hl
 | tup => simp [z7, A.leaf] at hl
 | junk => simp [z7, A.leaf] at hl
end
end Go.Proofs.YtbhoeanfnbkenaaGreatDoor
namespace Go.Proofs.YtbhoeanfnbkenaaGreatDoor
open Go.RowKit
theorem zcc {α : Type} (l : List α) (off : Nat) (cs : List α) (h : off + cs.length ≤ l.length) : (zap l off cs).length = l.length := by
 unfold zap
 simp
 omega
theorem zbT {α : Type} (l : List α) (off : Nat) (cs : List α) (h : off + cs.length ≤ l.length) (j : Nat) : (zap l off cs)[j]? = if j < off then l[j]? else if j < off + cs.length then cs[j - off]? else l[j]? := by
 unfold zap
 have ht : (l.take off).length = off := by simp; omega
 by_cases h1 : j < off
 ·rw [if_pos h1, List.getElem?_append_left (by simp; omega), List.getElem?_append_left (by omega), List.getElem?_take, if_pos h1]
 ·rw [if_neg h1]
  by_cases h2 : j < off + cs.length
  ·rw [if_pos h2, List.getElem?_append_left (by simp; omega), List.getElem?_append_right (by omega), ht]
  ·rw [if_neg h2, List.getElem?_append_right (by simp; omega), List.getElem?_drop]
   congr 1
   simp
   omega
theorem zfp {α : Type} {z : Nat} : ∀ {l : List (List α)} {i off : Nat} {e cs : List α}, (∀ e ∈ l, e.length = z) → l[i]? = some e → off + cs.length ≤ e.length → (l.set i (zap e off cs)).flatten = zap l.flatten (i * z + off) cs
 | [], _, _, _, _, _, h, _ => by simp at h
 | x :: l, 0, off, e, cs, hz, h, hl => by
  simp only [List.getElem?_cons_zero, Option.some.injEq] at h
  subst h
  rw [List.set_cons_zero, List.flatten_cons, List.flatten_cons, Nat.zero_mul, Nat.zero_add]
  unfold zap
  rw [List.take_append_of_le_length (by omega), List.drop_append_of_le_length hl]
  simp
 | x :: l, i + 1, off, e, cs, hz, h, hl => by
  have hx := hz x List.mem_cons_self
  rw [List.set_cons_succ, List.flatten_cons, List.flatten_cons, zfp (fun y hy => hz y (List.mem_cons_of_mem _ hy)) (by simpa using h) hl]
  unfold zap
  have e1 : (i + 1) * z + off = x.length + (i * z + off) := by rw [hx, Nat.add_mul]; omega
  rw [e1, List.take_length_add_append, Nat.add_assoc x.length, List.drop_length_add_append]
  simp
theorem zkQ (cur : Array Value) (off : Nat) (vs : List Value) : (cur.toList.take off ++ vs ++ cur.toList.drop (off + vs.length)) = zap cur.toList off vs := rfl
section
variable {P : Program} {tt : Tys} {Hy : World → Prop} {X : World → (Nat → Prop) → (Nat → O) → (Nat → Value) → Prop} {B : Nat} {St : Nat → Prop} {Dp : List Deferred → Prop} {w0 w : World} {s : S} {ι : Nat → Value} {a : Act}
theorem zfq {B g : Nat} {w : World} (hBg : B ≤ g) (cs : Array Value) : Below B w (w.setRow g cs) :=
 ⟨rfl, rfl, rfl, by simp, fun k hk => setRow_other w g k cs (by omega)⟩
theorem zfr {ty : TypeId} {td : TD} (ht : TdOk P ty td) (g o : Nat) (t : TypeId) (cur : Array Value) (v : Value) (hg : w.heap[g]? = some (.cells cur t (0, 0))) (hs : v.cells.size = td.size) (hl : o + td.size ≤ cur.size) (h1 : ∀ c ∈ v.cells.toList, c.oneCell' = true) :
  (Instr.storeAt ty (.pointer (some ⟨g, o, none⟩)) v).run P w = .ok () (w.setRow g (zap cur.toList o v.cells.toList).toArray) := by
 have sz : (sizeOf ty).run P w = .ok td.size w := ht.size
 have := run_storeCells_at (P := P) g o t v.cells.toList 0 cur w hg (by simp; omega) h1
 simp only [Nat.add_zero, zkQ] at this
 simp [Instr.storeAt, Instr.sureAddr, storeVar, sz, hs, this]
theorem zkR (h : Rel Hy X B St w0 Dp s ι a w) (hT : Tys.ok P tt) {ty : TypeId} {td : TD} (hd : tt ty = some td) {x v : Operand} {id g off : Nat} (e : s.ev x = .ptr id g off) (hg : g = (s.o id).gen) {ty' : TypeId} {l : List A} (hk : (s.o id).k = .cells ty' l)
  (h1 : (z7 (s.ev v)).length = td.size) (h2 : (z7 (s.ev v)).all A.leaf = true) (h3 : off + td.size ≤ l.length) (dst : Option Nat) :
  ∃ w', (Instr.storeAt ty (a.eval x) (a.eval v)).run P w = .ok () w' ∧ Rel Hy X B St w0 Dp ((s.ob id ⟨g, .cells ty' (zap l off (z7 (s.ev v)))⟩).put dst .junk) ι (a.put dst undef) w' := by
 have hx := h.ev x
 rw [e] at hx
 obtain ⟨blk, hi, hv⟩ := hx.ptr_get hg
 have ho := h.ob id
 rw [hk] at ho
 obtain ⟨blk', cs, k1, k2, k3, k4, k5⟩ := ho
 rw [hi] at k1
 cases k1
 obtain ⟨c1, c2⟩ := zdb (h.ev v) h2
 have hvl : (a.eval v).cells.toList.length = td.size := by simp [c1, h1]
 have one : ∀ c ∈ (a.eval v).cells.toList, c.oneCell' = true := fun c hc => by
  obtain ⟨j, hj⟩ := List.getElem?_of_mem hc
  have hjl := (List.getElem?_eq_some_iff.1 hj).1
  have hjl2 : j < (z7 (s.ev v)).length := by rw [← c1]; simpa using hjl
  obtain ⟨c', hc', hr⟩ := c2 j _ (List.getElem?_eq_getElem hjl2)
  have : c' = c := by
   have hj' : (a.eval v).cells[j]? = some c := by simpa using hj
   rw [hj'] at hc'
   exact (Option.some.inj hc').symm
  subst this
  exact hr.one (List.all_eq_true.1 h2 _ (List.getElem_mem hjl2))
 have hmb : mb s.o ι id = some blk := by unfold mb; rw [hk, hi]; rfl
 have hcl : off + (a.eval v).cells.toList.length ≤ cs.toList.length := by rw [hvl]; simp; omega
 have hal : off + (z7 (s.ev v)).length ≤ l.length := by omega
 refine ⟨_, by rw [hv]; exact zfr (hT _ _ hd) blk off ty' cs _ k3 (by simpa using hvl) (by omega) one, ?_⟩
 refine Rel.next h id ⟨g, .cells ty' (zap l off (z7 (s.ev v)))⟩ (ι id) dst _ _ (zfq k2 _) (fun _ _ => rfl) rfl (Nat.le_of_eq hg.symm) (fun _ => rfl) (fun b hb hne => setRow_other _ _ _ _ (fun e2 => hne (by rw [hmb, e2]))) (fun b e2 => .inl ?_) (fun mT mA => ?_) (fun _ _ _ => .junk)
 ·unfold mb at e2 ⊢
  rw [show (s.ob id ⟨g, .cells ty' (zap l off (z7 (s.ev v)))⟩).o id = ⟨g, .cells ty' (zap l off (z7 (s.ev v)))⟩ from if_pos rfl] at e2
  rw [hk]
  exact e2
 ·refine ⟨blk, _, hi, k2, setRow_heap w blk cs _ ty' (0, 0) k3, by simp [zcc _ _ _ hcl, zcc _ _ _ hal, k4], fun j y hy => ?_⟩
  rw [zbT _ _ _ hal] at hy
  have get : ∀ c, (zap cs.toList off (a.eval v).cells.toList)[j]? = some c → (zap cs.toList off (a.eval v).cells.toList).toArray[j]? = some c := fun c hc => by simpa using hc
  have at2 := zbT cs.toList off (a.eval v).cells.toList hcl j
  rw [hvl] at at2
  rw [h1] at hy
  split at hy
  ·rename_i hj
   obtain ⟨c, p1, p2, p3⟩ := k5 j y hy
   exact ⟨c, get c (by rw [at2, if_pos hj]; simpa using p1), p2, mA _ _ p3⟩
  ·rename_i hj
   split at hy
   ·rename_i hj2
    obtain ⟨c, p1, p2⟩ := c2 _ y hy
    refine ⟨c, get c (by rw [at2, if_neg hj, if_pos hj2]; simpa using p1), List.all_eq_true.1 h2 _ (List.mem_of_getElem? hy), mA _ _ p2⟩
   ·rename_i hj2
    obtain ⟨c, p1, p2, p3⟩ := k5 j y hy
    exact ⟨c, get c (by rw [at2, if_neg hj, if_neg hj2]; simpa using p1), p2, mA _ _ p3⟩
theorem zfs {D : Nat → Prop} {v : Value} {t : T} (h : Rt w D v t) : v.cells.size = (zas t).length ∧ ∀ (j : Nat) y, (zas t)[j]? = some y → ∃ c, v.cells[j]? = some c ∧ Rt w D c y := by
 have one : ∀ {v : Value} {x : T}, v.cells = #[v] → zas x = [x] → Rt w D v x → v.cells.size = (zas x).length ∧ ∀ (j : Nat) y, (zas x)[j]? = some y → ∃ c, v.cells[j]? = some c ∧ Rt w D c y := fun {v x} e1 e2 hr => by
  rw [e1, e2]
  refine ⟨rfl, fun j y hy => ?_⟩
  cases j with
  | zero => cases hy; exact ⟨v, rfl, hr⟩
  | succ j => simp at hy
 cases h with
 | ag cs l c hz hc hl2 hr => exact ⟨hz, fun j y hy => ⟨c j, hc j (List.getElem?_eq_some_iff.1 hy).1, hr j y hy⟩⟩
 | b x => exact one rfl rfl (.b x)
 | i k n => exact one rfl rfl (.i k n)
 | s x => exact one rfl rfl (.s x)
 | sl0 p c hp => exact one rfl rfl (.sl0 p c hp)
 | sl g o n cap z l c hn hq hD hz hc hl2 hr => exact one rfl rfl (.sl g o n cap z l c hn hq hD hz hc hl2 hr)
 | cp blk off l c hD hc hl2 hr => exact one rfl rfl (.cp blk off l c hD hc hl2 hr)
 | ifc ty v x h => exact one rfl rfl (.ifc ty v x h)
 | nif => exact one rfl rfl .nif
 | np => exact one rfl rfl .np
 | nfn => exact one rfl rfl .nfn
 | nmp => exact one rfl rfl .nmp
 | yl l => exact one rfl rfl (.yl l)
theorem zkS (h : Rel Hy X B St w0 Dp s ι a w) (hT : Tys.ok P tt) {ty : TypeId} {td : TD} (hd : tt ty = some td) {x v : Operand} {id g z i off : Nat} (e : s.ev x = .rp id g z i off) (hg : g = (s.o id).gen) {ty' : TypeId} {l : List (List T)} (hk : (s.o id).k = .row ty' z l)
  {t : T} (hf : Fz w B St s ι [] (a.eval v) t) (h1 : (zas t).length = td.size) (h2 : (zas t).all T.leaf = true) {el : List T} (hel : l[i]? = some el) (h3 : off + td.size ≤ el.length) (dst : Option Nat) :
  ∃ w', (Instr.storeAt ty (a.eval x) (a.eval v)).run P w = .ok () w' ∧ Rel Hy X B St w0 Dp ((s.ob id ⟨g, .row ty' z (l.set i (zap el off (zas t)))⟩).put dst .junk) ι (a.put dst undef) w' := by
 have hx := h.ev x
 rw [e] at hx
 obtain ⟨blk, n, cap, hi, hv⟩ := hx.rp_get hg
 have ho := h.ob id
 rw [hk] at ho
 obtain ⟨k1, xs, k2, k3⟩ := ho
 have hrt : Rt w (Sd B St s.o ι w) (a.eval v) t := hf _ (fun _ h => h) (fun _ h => (by cases h))
 obtain ⟨c1, c2⟩ := zfs hrt
 have hvl : (a.eval v).cells.toList.length = td.size := by simp [c1, h1]
 have one : ∀ c ∈ (a.eval v).cells.toList, c.oneCell' = true := fun c hc => by
  obtain ⟨j, hj⟩ := List.getElem?_of_mem hc
  have hjl := (List.getElem?_eq_some_iff.1 hj).1
  have hjl2 : j < (zas t).length := by rw [← c1]; simpa using hjl
  obtain ⟨c', hc', hr⟩ := c2 j _ (List.getElem?_eq_getElem hjl2)
  have : c' = c := by
   have hj' : (a.eval v).cells[j]? = some c := by simpa using hj
   rw [hj'] at hc'
   exact (Option.some.inj hc').symm
  subst this
  exact hr.one (List.all_eq_true.1 h2 _ (List.getElem_mem hjl2))
 rw [hi] at k2
 have hlen : xs.length = l.length * z := k2.1
 rcases k2.2 with ⟨h4, _⟩ | ⟨blk', cap', cur, h4, hb2, hg2, hle, hcm, hcs, htk⟩
 ·cases h4
 cases h4
 have hmb : mb s.o ι id = some blk := by unfold mb; rw [hk, hi]; rfl
 have hil := (List.getElem?_eq_some_iff.1 hel).1
 have helz : el.length = z := k1 el (List.mem_of_getElem? hel)
 have hpos : i * z + off + td.size ≤ l.length * z := by
  calc i * z + off + td.size ≤ i * z + z := by omega
   _ = (i + 1) * z := by rw [Nat.add_mul]; omega
   _ ≤ l.length * z := Nat.mul_le_mul_right _ hil
 have hcz : l.length * z ≤ cur.size := by rw [hcs]; exact Nat.mul_le_mul_right _ hle
 have hcl : i * z + off + (a.eval v).cells.toList.length ≤ cur.toList.length := by rw [hvl]; simp; omega
 have hxl : i * z + off + (a.eval v).cells.toList.length ≤ xs.length := by rw [hvl]; omega
 have hfl : l.flatten.length = l.length * z := zbh k1
 have htl : i * z + off + (zas t).length ≤ l.flatten.length := by rw [h1]; omega
 refine ⟨_, by rw [hv]; exact zfr (hT _ _ hd) blk (i * z + off) ty' cur _ hg2 (by simpa using hvl) (by omega) one, ?_⟩
 have hset : ∀ e' ∈ l.set i (zap el off (zas t)), e'.length = z := fun e' he' => by
  rcases List.mem_or_eq_of_mem_set he' with h5 | rfl
  ·exact k1 e' h5
  ·rw [zcc _ _ _ (by rw [h1]; exact h3), helz]
 refine Rel.next h id ⟨g, .row ty' z (l.set i (zap el off (zas t)))⟩ (ι id) dst _ _ (zfq hb2 _) (fun _ _ => rfl) rfl (Nat.le_of_eq hg.symm) (fun _ => rfl) (fun b hb hne => setRow_other _ _ _ _ (fun e2 => hne (by rw [hmb, e2]))) (fun b e2 => .inl ?_) (fun mT mA => ?_) (fun _ _ _ => .junk)
 ·unfold mb at e2 ⊢
  rw [show (s.ob id ⟨g, .row ty' z (l.set i (zap el off (zas t)))⟩).o id = ⟨g, .row ty' z (l.set i (zap el off (zas t)))⟩ from if_pos rfl] at e2
  rw [hk]
  exact e2
 ·refine ⟨hset, zap xs (i * z + off) (a.eval v).cells.toList, ⟨by rw [zcc _ _ _ hxl, hlen, List.length_set], .inr ⟨blk, cap, _, by rw [hi, List.length_set], hb2, setRow_heap w blk cur _ ty' (0, 0) hg2, by rw [List.length_set]; exact hle, hcm, ?_, ?_⟩⟩, fun j y hy => ?_⟩
  ·rw [← hcs]
   simp only [List.size_toArray]
   rw [zcc _ _ _ hcl]
   simp
  ·rw [List.length_set, List.toList_toArray]
   apply List.ext_getElem?
   intro j
   rw [List.getElem?_take, zbT _ _ _ hcl, zbT _ _ _ hxl]
   have hx : ∀ j, j < l.length * z → xs[j]? = cur.toList[j]? := fun j hj => by rw [← htk, List.getElem?_take, if_pos hj]
   have hno : ∀ j, ¬ j < l.length * z → xs[j]? = none := fun j hj => by rw [List.getElem?_eq_none_iff]; omega
   rw [hvl]
   by_cases hj : j < l.length * z
   ·rw [if_pos hj, hx j hj]
   ·rw [if_neg hj, if_neg (by omega), if_neg (by omega), hno j hj]
  ·rw [zfp k1 hel (by rw [h1]; exact h3), zbT _ _ _ htl] at hy
   have at2 := zbT xs (i * z + off) (a.eval v).cells.toList hxl j
   rw [hvl] at at2
   rw [h1] at hy
   split at hy
   ·rename_i hj
    obtain ⟨c, p1, p2, p3⟩ := k3 j y hy
    exact ⟨c, by rw [at2, if_pos hj]; exact p1, p2, mT _ _ p3⟩
   ·rename_i hj
    split at hy
    ·rename_i hj2
     obtain ⟨c, p1, p2⟩ := c2 _ y hy
     exact ⟨c, by rw [at2, if_neg hj, if_pos hj2]; simpa using p1, List.all_eq_true.1 h2 _ (List.mem_of_getElem? hy), mT _ _ p2⟩
    ·rename_i hj2
     obtain ⟨c, p1, p2, p3⟩ := k3 j y hy
     exact ⟨c, by rw [at2, if_neg hj, if_neg hj2]; exact p1, p2, mT _ _ p3⟩
theorem zkT (h : Rel Hy X B St w0 Dp s ι a w) (hT : Tys.ok P tt) {ty : TypeId} {td : TD} (hd : tt ty = some td) {x v : Operand} {id g z i off : Nat} (e : s.ev x = .rp id g z i off) (hg : g = (s.o id).gen) {ty' : TypeId} {l : List (List A)} (hk : (s.o id).k = .rowA ty' z l)
  (h1 : (z7 (s.ev v)).length = td.size) (h2 : (z7 (s.ev v)).all A.leaf = true) {el : List A} (hel : l[i]? = some el) (h3 : off + td.size ≤ el.length) (dst : Option Nat) :
  ∃ w', (Instr.storeAt ty (a.eval x) (a.eval v)).run P w = .ok () w' ∧ Rel Hy X B St w0 Dp ((s.ob id ⟨g, .rowA ty' z (l.set i (zap el off (z7 (s.ev v))))⟩).put dst .junk) ι (a.put dst undef) w' := by
 have hx := h.ev x
 rw [e] at hx
 obtain ⟨blk, n, cap, hi, hv⟩ := hx.rp_get hg
 have ho := h.ob id
 rw [hk] at ho
 obtain ⟨k1, xs, k2, k3⟩ := ho
 obtain ⟨c1, c2⟩ := zdb (h.ev v) h2
 have hvl : (a.eval v).cells.toList.length = td.size := by simp [c1, h1]
 have one : ∀ c ∈ (a.eval v).cells.toList, c.oneCell' = true := fun c hc => by
  obtain ⟨j, hj⟩ := List.getElem?_of_mem hc
  have hjl := (List.getElem?_eq_some_iff.1 hj).1
  have hjl2 : j < (z7 (s.ev v)).length := by rw [← c1]; simpa using hjl
  obtain ⟨c', hc', hr⟩ := c2 j _ (List.getElem?_eq_getElem hjl2)
  have : c' = c := by
   have hj' : (a.eval v).cells[j]? = some c := by simpa using hj
   rw [hj'] at hc'
   exact (Option.some.inj hc').symm
  subst this
  exact hr.one (List.all_eq_true.1 h2 _ (List.getElem_mem hjl2))
 rw [hi] at k2
 have hlen : xs.length = l.length * z := k2.1
 rcases k2.2 with ⟨h4, _⟩ | ⟨blk', cap', cur, h4, hb2, hg2, hle, hcm, hcs, htk⟩
 ·cases h4
 cases h4
 have hmb : mb s.o ι id = some blk := by unfold mb; rw [hk, hi]; rfl
 have hil := (List.getElem?_eq_some_iff.1 hel).1
 have helz : el.length = z := k1 el (List.mem_of_getElem? hel)
 have hpos : i * z + off + td.size ≤ l.length * z := by
  calc i * z + off + td.size ≤ i * z + z := by omega
   _ = (i + 1) * z := by rw [Nat.add_mul]; omega
   _ ≤ l.length * z := Nat.mul_le_mul_right _ hil
 have hcz : l.length * z ≤ cur.size := by rw [hcs]; exact Nat.mul_le_mul_right _ hle
 have hcl : i * z + off + (a.eval v).cells.toList.length ≤ cur.toList.length := by rw [hvl]; simp; omega
 have hxl : i * z + off + (a.eval v).cells.toList.length ≤ xs.length := by rw [hvl]; omega
 have hfl : l.flatten.length = l.length * z := zbh k1
 have htl : i * z + off + (z7 (s.ev v)).length ≤ l.flatten.length := by rw [h1]; omega
 refine ⟨_, by rw [hv]; exact zfr (hT _ _ hd) blk (i * z + off) ty' cur _ hg2 (by simpa using hvl) (by omega) one, ?_⟩
 have hset : ∀ e' ∈ l.set i (zap el off (z7 (s.ev v))), e'.length = z := fun e' he' => by
  rcases List.mem_or_eq_of_mem_set he' with h5 | rfl
  ·exact k1 e' h5
  ·rw [zcc _ _ _ (by rw [h1]; exact h3), helz]
 refine Rel.next h id ⟨g, .rowA ty' z (l.set i (zap el off (z7 (s.ev v))))⟩ (ι id) dst _ _ (zfq hb2 _) (fun _ _ => rfl) rfl (Nat.le_of_eq hg.symm) (fun _ => rfl) (fun b hb hne => setRow_other _ _ _ _ (fun e2 => hne (by rw [hmb, e2]))) (fun b e2 => .inl ?_) (fun mT mA => ?_) (fun _ _ _ => .junk)
 ·unfold mb at e2 ⊢
  rw [show (s.ob id ⟨g, .rowA ty' z (l.set i (zap el off (z7 (s.ev v))))⟩).o id = ⟨g, .rowA ty' z (l.set i (zap el off (z7 (s.ev v))))⟩ from if_pos rfl] at e2
  rw [hk]
  exact e2
 ·refine ⟨hset, zap xs (i * z + off) (a.eval v).cells.toList, ⟨by rw [zcc _ _ _ hxl, hlen, List.length_set], .inr ⟨blk, cap, _, by rw [hi, List.length_set], hb2, setRow_heap w blk cur _ ty' (0, 0) hg2, by rw [List.length_set]; exact hle, hcm, ?_, ?_⟩⟩, fun j y hy => ?_⟩
  ·rw [← hcs]
   simp only [List.size_toArray]
   rw [zcc _ _ _ hcl]
   simp
  ·rw [List.length_set, List.toList_toArray]
   apply List.ext_getElem?
   intro j
   rw [List.getElem?_take, zbT _ _ _ hcl, zbT _ _ _ hxl]
   have hx : ∀ j, j < l.length * z → xs[j]? = cur.toList[j]? := fun j hj => by rw [← htk, List.getElem?_take, if_pos hj]
   have hno : ∀ j, ¬ j < l.length * z → xs[j]? = none := fun j hj => by rw [List.getElem?_eq_none_iff]; omega
   rw [hvl]
   by_cases hj : j < l.length * z
   ·rw [if_pos hj, hx j hj]
   ·rw [if_neg hj, if_neg (by omega), if_neg (by omega), hno j hj]
  ·rw [zfp k1 hel (by rw [h1]; exact h3), zbT _ _ _ htl] at hy
   have at2 := zbT xs (i * z + off) (a.eval v).cells.toList hxl j
   rw [hvl] at at2
   rw [h1] at hy
   split at hy
   ·rename_i hj
    obtain ⟨c, p1, p2, p3⟩ := k3 j y hy
    exact ⟨c, by rw [at2, if_pos hj]; exact p1, p2, mA _ _ p3⟩
   ·rename_i hj
    split at hy
    ·rename_i hj2
     obtain ⟨c, p1, p2⟩ := c2 _ y hy
     exact ⟨c, by rw [at2, if_neg hj, if_pos hj2]; simpa using p1, List.all_eq_true.1 h2 _ (List.mem_of_getElem? hy), mA _ _ p2⟩
    ·rename_i hj2
     obtain ⟨c, p1, p2, p3⟩ := k3 j y hy
     exact ⟨c, by rw [at2, if_neg hj, if_neg hj2]; exact p1, p2, mA _ _ p3⟩
end
end Go.Proofs.YtbhoeanfnbkenaaGreatDoor
namespace Go.Proofs.YtbhoeanfnbkenaaGreatDoor
open Go.RowKit
section
variable {P : Program} {tt : Tys} {Hy : World → Prop} {X : World → (Nat → Prop) → (Nat → O) → (Nat → Value) → Prop} {B : Nat} {St : Nat → Prop} {Dp : List Deferred → Prop} {w0 w : World} {s : S} {ι : Nat → Value} {a : Act}
theorem zft {B B' : Nat} {e : TypeId} {size n : Nat} {v : Value} {xs : List Value} (h : w.ownsRow B' e size v n xs) (hB : B ≤ B') : w.ownsRow B e size v n xs := by
 refine ⟨h.1, ?_⟩
 rcases h.2 with h2 | ⟨g, cap, cur, h2, h3, r⟩
 ·exact .inl h2
 ·exact .inr ⟨g, cap, cur, h2, Nat.le_trans hB h3, r⟩
theorem zhA (base : Nat) (t ty e : TypeId) (i : TypeInfo) (z : Value) (ht : P.underlying t = some (.slice e)) (hi : P.info? e = some i) (hz : i.zero = some z) (hzs : z.cells.size = i.size) (hsz : 0 < i.size)
  (v : Value) (n : Nat) (xs : List Value) (hown : w.ownsRow base e i.size v n xs)
  (a : Addr) (m c : Nat) (news : List Value) (hl : news.length = m * i.size) (hnews : ∀ (j : Nat) u, news[j]? = some u → w.cell? (a.add j) = some u) (h1 : ∀ u ∈ news, u.oneCell' = true)
  (h63 : n + m ≤ maxLen) (hbytes : (n + m) * i.bytes ≤ 140737488355328) (hbase : base ≤ w.heap.size) :
  ∃ v' w', (Builtin.append_ #[t, t] ty #[v, .slice (some a) m c]).run P w = .ok v' w' ∧ w'.ownsRow base e i.size v' (n + m) (xs ++ news) ∧ w.grownBy w' v.ownBlock ∧ ∀ b, v'.ownBlock = some b → v.ownBlock = some b ∨ w.heap.size ≤ b := by
 have hsmall : n + m ≤ 9223372036854775807 := by simp only [maxLen] at h63; omega
 rcases hown.2 with ⟨rfl, rfl⟩ | ⟨g, cap, cur, rfl, hbg, hg, hnc, hcm, hcs, htake⟩
 ·have hx : xs = [] := List.eq_nil_of_length_eq_zero (by simpa using hown.1)
  subst hx
  obtain ⟨v', w', r1, r2, r3, _⟩ := run_append_own (P := P) w w.heap.size t ty e i z i.size i.bytes ht hi hz rfl rfl hzs hsz (.slice none 0 0) 0 [] (World.ownsRow_nil _ _ _ _) a m c news hl hnews h1 h63 hbytes (Nat.le_refl _)
  exact ⟨v', w', r1, zft r2 hbase, r3, fun b hb => .inr (r2.lt b hb).1⟩
 ·obtain ⟨v', w', r1, r2, r3, _⟩ := run_append_own (P := P) w base t ty e i z i.size i.bytes ht hi hz rfl rfl hzs hsz _ n xs hown a m c news hl hnews h1 h63 hbytes hbase
  refine ⟨v', w', r1, r2, r3, fun b hb => ?_⟩
  by_cases hroom : n + m ≤ cap
  ·have hfit : n * i.size + news.length ≤ cur.size := by rw [hl, hcs, ← Nat.add_mul]; exact Nat.mul_le_mul_right _ hroom
   have hr := run_append_room (P := P) w t ty e i ht hi g n cap cur hg a m c news hl hnews h1 hroom hfit
   rw [hr] at r1
   injection r1 with e1 e2
   subst e1
   exact .inl hb
  ·have holds : ∀ (j : Nat) u, xs[j]? = some u → w.cell? ((⟨g, 0, none⟩ : Addr).add j) = some u := hown.cells (g := g) rfl
   have hr := run_append_grow (P := P) w t ty e i z ht hi hz ⟨g, 0, none⟩ n cap xs hown.1 holds a m c news hl hnews (by omega) (by omega) (growslice_fits (by omega) hbytes)
   rw [hr] at r1
   injection r1 with e1 e2
   subst e1
   cases hb
   exact .inr (Nat.le_refl _)
def Src (w : World) (D : Nat → Prop) (v : Value) (z : Nat) (l : List (List T)) : Prop := (v = .slice none 0 0 ∧ l = []) ∨ ∃ (ad : Addr) (m c : Nat) (news : List Value), v = .slice (some ad) m c ∧ m = l.length ∧ news.length = m * z ∧
 (∀ (j : Nat) u, news[j]? = some u → w.cell? (ad.add j) = some u) ∧ ∀ (j : Nat) y, l.flatten[j]? = some y → ∃ c, news[j]? = some c ∧ y.leaf = true ∧ Rt w D c y
theorem zhB {D : Nat → Prop} {v : Value} {l : List (List T)} {z : Nat} (h : Rt w D v (.sl l)) (hz : ∀ e ∈ l, e.length = z) : Src w D v z l := by
 cases h with
 | sl0 p cap hp =>
  cases p with
  | none => left; exact ⟨by rw [hp rfl], rfl⟩
  | some ad => right; exact ⟨ad, 0, cap, [], rfl, rfl, by simp, fun j u hu => (by simp at hu), fun j y hy => (by simp at hy)⟩
 | sl g o n cap z' l c hn hq hD hz' hc hl hr =>
  right
  have hzz : l.flatten.length = l.length * z := zbh hz
  have hzz' : l.flatten.length = l.length * z' := zbh hz'
  refine ⟨⟨g, o, none⟩, n, cap, (List.range (l.length * z)).map c, rfl, hn, by simp [hn], fun j u hu => ?_, fun j y hy => ?_⟩
  ·rw [List.getElem?_map] at hu
   obtain ⟨k, hk, rfl⟩ := Option.map_eq_some_iff.1 hu
   have hk2 := List.getElem?_eq_some_iff.1 hk
   simp at hk2
   obtain ⟨hl2, rfl⟩ := hk2
   rw [Addr.add_mid]
   exact hc j (by omega)
  ·have hjl := (List.getElem?_eq_some_iff.1 hy).1
   refine ⟨c j, ?_, hl j y hy, hr j y hy⟩
   rw [List.getElem?_map, List.getElem?_range (by omega)]
   rfl
theorem zdQ {z : Value} {zv : Value} (h : z.cells = #[zv]) (m : Nat) : Builtin.zeroCells z.cells m = (List.replicate m zv).toArray := by
 rw [h]
 apply Array.toList_inj.1
 apply List.ext_getElem?
 intro j
 simp only [Builtin.zeroCells, List.getElem?_replicate]
 by_cases hj : j < m
 ·simp [hj, Nat.mod_one]
 ·simp [hj]
theorem zkU {P : Program} {w : World} (B : Nat) (t tn ty e : TypeId) (i : TypeInfo) (z zv : Value) (kq kn : IntKind) (ht : P.underlying t = some (.slice e)) (htn : P.underlying tn = some (.int kn)) (hi : P.info? e = some i) (hz : i.zero = some z) (hzc : z.cells = #[zv])
  (hs : i.size = 1) (hby : i.bytes ≤ 1000) (h1 : zv.oneCell' = true) (v : Value) (n : Nat) (xs : List Value) (hown : w.ownsRow B e 1 v n xs) (k : Nat) (hk : n + k ≤ 16777216) (hB : B ≤ w.heap.size) :
  ∃ v' w', (Builtin.append_ #[t, tn] ty #[v, .int kq k]).run P w = .ok v' w' ∧ w'.ownsRow B e 1 v' (n + k) (xs ++ List.replicate k zv) ∧ w.grownBy w' v.ownBlock ∧ ∀ b, v'.ownBlock = some b → v.ownBlock = some b ∨ w.heap.size ≤ b := by
 have hlen : (xs ++ List.replicate k zv).length = (n + k) * 1 := by rw [List.length_append, hown.1, List.length_replicate]; omega
 have hmul : ∀ a b : Nat, a ≤ b → a * i.bytes ≤ b * 1000 := fun a b h => Nat.mul_le_mul h hby
 have hw : IntKind.i64.wrap (k : Int) = k := by rw [IntKind.wrap_i64]; omega
 have hw0 : IntKind.i64.wrap 0 = 0 := by decide
 have h48 : k * i.bytes ≤ 281474976710656 := Nat.le_trans (hmul k 16777216 (by omega)) (by omega)
 have h48i : ¬ (281474976710656 < (k : Int) * (i.bytes : Int)) := by
  rw [← Int.natCast_mul]
  omega
 have hneg : ¬ ((k : Int) < 0) := by omega
 have grown : ∀ (old : Nat), old < n + k → ∀ (row : Option Nat),
   (w.drew.alloc (.cells (xs.toArray ++ Builtin.zeroCells z.cells k ++ Builtin.zeroCells z.cells (grownCap w (n + k) old e - (n + k))) e)).ownsRow B e 1
    (.slice (some ⟨w.heap.size, 0, none⟩) (n + k) (grownCap w (n + k) old e)) (n + k) (xs ++ List.replicate k zv) ∧
   w.grownBy (w.drew.alloc (.cells (xs.toArray ++ Builtin.zeroCells z.cells k ++ Builtin.zeroCells z.cells (grownCap w (n + k) old e - (n + k))) e)) row := by
  intro old ho row
  have hge := grownCap_ge w (n + k) old e
  have hcm : grownCap w (n + k) old e ≤ maxLen := grownCap_le_maxLen w (n + k) old e (by simp only [maxLen]; omega)
  refine ⟨⟨hlen, .inr ⟨w.heap.size, _, _, rfl, hB, heap_alloc_new w.drew _, hge, hcm, ?_, ?_⟩⟩, ⟨rfl, rfl, rfl, by simp, fun j hj _ => heap_alloc_old w.drew _ hj⟩⟩
  ·rw [zdQ hzc, zdQ hzc]
   simp only [Array.size_append, List.size_toArray, List.length_replicate, hown.1]
   omega
  ·rw [zdQ hzc, zdQ hzc]
   simp only [Array.toList_append, List.append_assoc]
   rw [← List.append_assoc, ← hlen]
   exact List.take_left
 rcases hown.2 with ⟨rfl, rfl⟩ | ⟨g, cap, cur, rfl, hbg, hg, hnc, hcm, hcs, htake⟩
 ·have hx : xs = [] := List.eq_nil_of_length_eq_zero (by simpa using hown.1)
  subst hx
  by_cases hm : k = 0
  ·subst hm
   refine ⟨.slice none 0 0, w, ?_, World.ownsRow_nil w B e 1, ⟨rfl, rfl, rfl, Nat.le_refl _, fun _ _ _ => rfl⟩, fun b hb => .inl hb⟩
   simp [Builtin.append_, run_underlying ht, run_underlying htn, sizeOf, typeInfo, hi, asInt, asIntOf, hw0]
  ·have hr := Lib.run_append_nil_zeros (P := P) w t tn ty e i z kq kn ht htn hi hz k (by omega) (by omega) (by omega) h48
   have hgr := grown 0 (by omega) (Value.ownBlock (.slice none 0 0))
   simp only [Nat.zero_add, List.nil_append, Array.empty_append] at hgr ⊢
   exact ⟨_, _, hr, hgr.1, hgr.2, fun b hb => .inr (by
    have : w.heap.size = b := by simpa [Value.ownBlock] using hb
    omega)⟩
 ·by_cases hroom : n + k ≤ cap
  ·have hfit : n * 1 + 0 + (List.replicate k zv).length ≤ cur.size := by rw [List.length_replicate, hcs]; omega
   have hst := run_storeCells_at P g (n * 1) e (List.replicate k zv) 0 cur w hg hfit (fun u hu => by rw [List.eq_of_mem_replicate hu]; exact h1)
   simp only [Nat.add_zero] at hst
   refine ⟨_, w.setRow g (cur.toList.take (n * 1) ++ List.replicate k zv ++ cur.toList.drop (n * 1 + (List.replicate k zv).length)).toArray, ?_, ⟨hlen, .inr ⟨g, cap, _, rfl, hbg, setRow_heap w g cur _ e _ hg, hroom, hcm, ?_, ?_⟩⟩, ⟨rfl, rfl, rfl, by simp, fun j _ hj => setRow_other w g j _ (fun e => hj (by simp [Value.ownBlock, e]))⟩, fun b hb => .inl hb⟩
   ·have hns : k * i.size = k := by rw [hs, Nat.mul_one]
    by_cases hm : k = 0
    ·subst hm
     have hr0 : n ≤ cap := by omega
     have hst2 : (storeCells ⟨g, n, none⟩ []).run P w = .ok () (w.setRow g cur) := by simpa using hst
     simp [Builtin.append_, run_underlying ht, run_underlying htn, sizeOf, typeInfo, hi, asInt, asIntOf, hw0, hr0, hs, Addr.add_lit, hst2]
    ·have hst2 : (storeCells ⟨g, n, none⟩ (List.replicate k zv)).run P w = .ok () (w.setRow g (cur.toList.take (n * 1) ++ List.replicate k zv ++ cur.toList.drop (n * 1 + (List.replicate k zv).length)).toArray) := by simpa using hst
     simp [Builtin.append_, run_underlying ht, run_underlying htn, sizeOf, typeInfo, zeroValue, hi, hz, asInt, asIntOf, hw, h48i, hneg, hm, hroom, hs, zdQ hzc, Addr.add_lit, hst2]
   ·simp only [List.size_toArray, List.length_append, List.length_take, List.length_drop, Array.length_toList, List.length_replicate]
    omega
   ·rw [htake, ← hlen]
    exact List.take_left
  ·have holds : ∀ (j : Nat) u, xs[j]? = some u → w.drew.cell? ((⟨g, 0, none⟩ : Addr).add j) = some u := hown.cells (g := g) rfl
   have hold := run_firstCells_some (P := P) w.drew i.size n ⟨g, 0, none⟩ n cap xs (by rw [hs]; exact hown.1) holds
   have hr := Lib.run_append_grow_zeros (P := P) w t tn ty e i z kq kn ht htn hi hz (some ⟨g, 0, none⟩) n cap xs hold k (by omega) (by omega) (by omega) (by omega) h48 (growslice_fits (by omega) (Nat.le_trans (hmul (n + k) 16777216 hk) (by omega)))
   have hgr := grown cap (by omega) (Value.ownBlock (.slice (some ⟨g, 0, none⟩) n cap))
   exact ⟨_, _, hr, hgr.1, hgr.2, fun b hb => .inr (by
    have : w.heap.size = b := by simpa [Value.ownBlock] using hb
    omega)⟩
theorem zhC (h : Rel Hy X B St w0 Dp s ι a w) {e : TypeId} {z0 : Nat} {op : Sem Value}
  (id : Nat) (v : Value) (l m : List (List T)) (g : Nat) (hv : (v = .slice none 0 0 ∧ l = []) ∨ (v = ι id ∧ ∃ ty', ty' = e ∧ (s.o id).k = .row ty' z0 l))
  (hl : ∀ x ∈ l, x.length = z0) (hm : ∀ x ∈ m, x.length = z0) (hg : (s.o id).gen < g)
  (hop : ∀ xs, w.ownsRow B e z0 v l.length xs → ∃ v' w' news, op.run P w = .ok v' w' ∧ w'.ownsRow B e z0 v' (l.length + m.length) (xs ++ news) ∧ w.grownBy w' v.ownBlock ∧ (∀ b, v'.ownBlock = some b → v.ownBlock = some b ∨ w.heap.size ≤ b) ∧
   ∀ (j : Nat) y, m.flatten[j]? = some y → ∃ c, news[j]? = some c ∧ y.leaf = true ∧ Rt w (Sd B St s.o ι w) c y) (dst : Option Nat) :
  ∃ ι' v' w', op.run P w = .ok v' w' ∧ Rel Hy X B St w0 Dp ((s.ob id ⟨g, .row e z0 (l ++ m)⟩).put dst (.row id g)) ι' (a.put dst v') w' := by
 obtain ⟨xs, hown, hmbv, hxs⟩ : ∃ xs, w.ownsRow B e z0 v l.length xs ∧ (∀ b, v.ownBlock = some b → mb s.o ι id = some b) ∧ ∀ (j : Nat) y, l.flatten[j]? = some y → ∃ c, xs[j]? = some c ∧ y.leaf = true ∧ Rt w (Sd B St s.o ι w) c y := by
  rcases hv with ⟨rfl, rfl⟩ | ⟨rfl, ty', rfl, hkk⟩
  ·exact ⟨[], World.ownsRow_nil _ _ _ _, fun b hb => (by cases hb), fun j y hy => (by simp at hy)⟩
  ·have ho := h.ob id
   rw [hkk] at ho
   obtain ⟨_, xs, k2, k3⟩ := ho
   refine ⟨xs, k2, fun b hb => ?_, k3⟩
   unfold mb
   rw [hkk]
   revert hb
   generalize ι id = q
   intro hb
   cases q <;> first | (cases hb; done) | skip
   rename_i p _ _
   cases p <;> first | (cases hb; done) | exact hb
 obtain ⟨v', w', news, r1, r2, r3, r4, r5⟩ := hop xs hown
 have hxl : xs.length = l.length * z0 := hown.1
 have v1 : v'.oneCell' = true := by rcases r2.2 with ⟨h4, _⟩ | ⟨_, _, _, h4, _⟩ <;> (rw [h4]; rfl)
 have oid : (s.ob id ⟨g, .row e z0 (l ++ m)⟩).o id = ⟨g, .row e z0 (l ++ m)⟩ := if_pos rfl
 refine ⟨fun j => if j = id then v' else ι j, v', w', r1, Rel.next h id _ v' dst _ _ ?_ (fun j hj => if_neg hj) (if_pos rfl) (Nat.le_of_lt hg) (fun e2 => absurd e2 (Nat.ne_of_lt hg)) (fun b hb hne => r3.block b hb (fun e2 => hne (hmbv b e2.symm))) (fun b e2 => ?_) (fun mT mA => ?_) (fun mT mA _ => ?_)⟩
 ·exact (Below.refl B w).grown r3 h.hB (fun b hb => (hown.lt b hb).1)
 ·unfold mb at e2
  rw [oid] at e2
  simp only [if_true] at e2
  have : v'.ownBlock = some b := by
   cases v' <;> first | (cases v1; done) | skip
   all_goals first
    | (rcases r2.2 with ⟨h4, _⟩ | ⟨_, _, _, h4, _⟩ <;> cases h4; done)
    | (rename_i p _ _; cases p <;> first | (cases e2; done) | exact e2)
  rcases r4 b this with h5 | h5
  ·exact .inl (hmbv b h5)
  ·exact .inr h5
 ·refine ⟨fun x hx => ?_, xs ++ news, by rw [List.length_append]; exact r2, fun j y hy => ?_⟩
  ·rcases List.mem_append.1 hx with hx | hx
   ·exact hl x hx
   ·exact hm x hx
  ·rw [List.flatten_append] at hy
   have hfl : l.flatten.length = xs.length := by rw [hxl, zbh hl]
   by_cases hj : j < l.flatten.length
   ·rw [List.getElem?_append_left hj] at hy
    obtain ⟨c, p1, p2, p3⟩ := hxs j y hy
    exact ⟨c, by rw [List.getElem?_append_left (by omega)]; exact p1, p2, mT _ _ p3⟩
   ·rw [List.getElem?_append_right (by omega)] at hy
    obtain ⟨c, p1, p2, p3⟩ := r5 _ y hy
    exact ⟨c, by rw [List.getElem?_append_right (by omega), ← hfl]; exact p1, p2, mT _ _ p3⟩
 ·refine .row ?_ (fun _ => (if_pos rfl : (if id = id then v' else ι id) = v').symm) v1
  rw [oid]
  exact Nat.le_refl _
theorem zhD (h : Rel Hy X B St w0 Dp s ι a w) (hT : Tys.ok P tt) {t : TypeId} {dt : TD} {e : TypeId} (hdt : tt t = some dt) (hk : dt.k = .slice e) {de : TD} (hde : tt e = some de) (hpos : 0 < de.size) (hzl : de.zero.length = de.size) (ty : TypeId)
  (id : Nat) (v u : Value) (l m : List (List T)) (g : Nat)
  (hv : (v = .slice none 0 0 ∧ l = []) ∨ (v = ι id ∧ ∃ ty', ty' = e ∧ (s.o id).k = .row ty' de.size l))
  (hl : ∀ x ∈ l, x.length = de.size) (hm : ∀ x ∈ m, x.length = de.size) (hu : Src w (Sd B St s.o ι w) u de.size m) (hg : (s.o id).gen < g) (hb1 : (l.length + m.length) * de.bytes ≤ 140737488355328) (hb2 : l.length + m.length ≤ 9223372036854775807) (dst : Option Nat) :
  ∃ ι' v' w', (Builtin.append_ #[t, t] ty #[v, u]).run P w = .ok v' w' ∧ Rel Hy X B St w0 Dp ((s.ob id ⟨g, .row e de.size (l ++ m)⟩).put dst (.row id g)) ι' (a.put dst v') w' := by
 obtain ⟨ux, hux, hok⟩ := (hT _ _ hdt).desc
 obtain ⟨hok, _⟩ := hok
 rw [hk] at hok
 simp only [TK.ok] at hok
 subst hok
 obtain ⟨i, z, i1, i2, i3, i4, i5⟩ := (hT _ _ hde).info
 have hzs : z.cells.size = i.size := by rw [i2, ← hzl, ← i5]; simp
 refine zhC h id v l m g hv hl hm hg (fun xs hown => ?_) dst
 rcases hu with ⟨rfl, rfl⟩ | ⟨ad, k, c, news, rfl, hk2, hnl, hnc, hnr⟩
 ·refine ⟨v, w, [], run_append_owned_none w B t ty e i de.size hux i1 v l.length xs hown, by simpa using hown, ⟨rfl, rfl, rfl, Nat.le_refl _, fun _ _ _ => rfl⟩, fun b hb => .inl hb, fun j y hy => (by simp at hy)⟩
 ·subst hk2
  have one : ∀ x ∈ news, x.oneCell' = true := fun x hx => by
   obtain ⟨j, hj⟩ := List.getElem?_of_mem hx
   have hjl := (List.getElem?_eq_some_iff.1 hj).1
   have : j < m.flatten.length := by rw [zbh hm]; omega
   obtain ⟨c', hc', hl', hr'⟩ := hnr j _ (List.getElem?_eq_getElem this)
   rw [hj] at hc'
   cases hc'
   exact hr'.one hl'
  rw [← i2] at hown hnl
  obtain ⟨v', w', r1, r2, r3, r4⟩ := zhA (P := P) B t ty e i z hux i1 i4 hzs (by omega) v l.length xs hown ad m.length c news hnl hnc one (by simp only [maxLen]; omega) (by rw [i3]; exact hb1) h.hB
  rw [i2] at r2
  exact ⟨v', w', news, r1, r2, r3, r4, hnr⟩
def zfu (w : World) (D : Nat → Prop) (o : Nat → O) (ι : Nat → Value) (v : Value) (z : Nat) (l : List (List A)) : Prop := (v = .slice none 0 0 ∧ l = []) ∨ ∃ (ad : Addr) (m c : Nat) (news : List Value), v = .slice (some ad) m c ∧ m = l.length ∧ news.length = m * z ∧
 (∀ (j : Nat) u, news[j]? = some u → w.cell? (ad.add j) = some u) ∧ ∀ (j : Nat) y, l.flatten[j]? = some y → ∃ c, news[j]? = some c ∧ y.leaf = true ∧ Ra w D o ι c y
theorem Src.up {D : Nat → Prop} {v : Value} {l : List (List T)} {z : Nat} (o : Nat → O) (ι : Nat → Value) (h : Src w D v z l) : zfu w D o ι v z (l.map fun e => e.map .t) := by
 rcases h with ⟨h1, rfl⟩ | ⟨ad, m, c, news, h1, h2, h3, h4, h5⟩
 ·exact .inl ⟨h1, rfl⟩
 ·refine .inr ⟨ad, m, c, news, h1, by rw [List.length_map]; exact h2, h3, h4, fun j y hy => ?_⟩
  rw [← List.map_flatten, List.getElem?_map] at hy
  obtain ⟨t, ht, rfl⟩ := Option.map_eq_some_iff.1 hy
  obtain ⟨c, p1, p2, p3⟩ := h5 j t ht
  exact ⟨c, p1, p2, .t p3⟩
theorem zfv (h : Rel Hy X B St w0 Dp s ι a w) (hT : Tys.ok P tt) {t : TypeId} {dt : TD} {e : TypeId} (hdt : tt t = some dt) (hk : dt.k = .slice e) {de : TD} (hde : tt e = some de) (hpos : 0 < de.size) (hzl : de.zero.length = de.size) (ty : TypeId)
  (id : Nat) (v u : Value) (l m : List (List A)) (g : Nat)
  (hv : (v = .slice none 0 0 ∧ l = []) ∨ (v = ι id ∧ (s.o id).k = .rowA e de.size l) ∨ (v = ι id ∧ ∃ l0, l = (l0.map fun e => e.map .t) ∧ (s.o id).k = .row e de.size l0))
  (hl : ∀ x ∈ l, x.length = de.size) (hm : ∀ x ∈ m, x.length = de.size) (hu : zfu w (Sd B St s.o ι w) s.o ι u de.size m) (hg : (s.o id).gen < g) (hb1 : (l.length + m.length) * de.bytes ≤ 140737488355328) (hb2 : l.length + m.length ≤ 9223372036854775807) (dst : Option Nat) :
  ∃ ι' v' w', (Builtin.append_ #[t, t] ty #[v, u]).run P w = .ok v' w' ∧ Rel Hy X B St w0 Dp ((s.ob id ⟨g, .rowA e de.size (l ++ m)⟩).put dst (.row id g)) ι' (a.put dst v') w' := by
 obtain ⟨ux, hux, hok⟩ := (hT _ _ hdt).desc
 obtain ⟨hok, _⟩ := hok
 rw [hk] at hok
 simp only [TK.ok] at hok
 subst hok
 obtain ⟨i, z, i1, i2, i3, i4, i5⟩ := (hT _ _ hde).info
 have hzs : z.cells.size = i.size := by rw [i2, ← hzl, ← i5]; simp
 obtain ⟨xs, hown, hmbv, hxs⟩ : ∃ xs, w.ownsRow B e de.size v l.length xs ∧ (∀ b, v.ownBlock = some b → mb s.o ι id = some b) ∧ ∀ (j : Nat) y, l.flatten[j]? = some y → ∃ c, xs[j]? = some c ∧ y.leaf = true ∧ Ra w (Sd B St s.o ι w) s.o ι c y := by
  have blkq : ∀ (q : Value) b, q.ownBlock = some b → Value.blk q = some b := fun q b hb => by
   cases q <;> first | (cases hb; done) | skip
   rename_i p _ _
   cases p <;> first | (cases hb; done) | exact hb
  rcases hv with ⟨rfl, rfl⟩ | ⟨rfl, hkk⟩ | ⟨rfl, l0, rfl, hkk⟩
  ·exact ⟨[], World.ownsRow_nil _ _ _ _, fun b hb => (by cases hb), fun j y hy => (by simp at hy)⟩
  ·have ho := h.ob id
   rw [hkk] at ho
   obtain ⟨_, xs, k2, k3⟩ := ho
   refine ⟨xs, k2, fun b hb => ?_, k3⟩
   unfold mb
   rw [hkk]
   exact blkq _ b hb
  ·have ho := h.ob id
   rw [hkk] at ho
   obtain ⟨_, xs, k2, k3⟩ := ho
   refine ⟨xs, by rw [List.length_map]; exact k2, fun b hb => ?_, fun j y hy => ?_⟩
   ·unfold mb
    rw [hkk]
    exact blkq _ b hb
   ·rw [← List.map_flatten, List.getElem?_map] at hy
    obtain ⟨t, ht, rfl⟩ := Option.map_eq_some_iff.1 hy
    obtain ⟨c, p1, p2, p3⟩ := k3 j t ht
    exact ⟨c, p1, p2, .t p3⟩
 obtain ⟨v', w', news, r1, r2, r3, r4, r5⟩ : ∃ v' w' news, (Builtin.append_ #[t, t] ty #[v, u]).run P w = .ok v' w' ∧ w'.ownsRow B e de.size v' (l.length + m.length) (xs ++ news) ∧ w.grownBy w' v.ownBlock ∧ (∀ b, v'.ownBlock = some b → v.ownBlock = some b ∨ w.heap.size ≤ b) ∧
   ∀ (j : Nat) y, m.flatten[j]? = some y → ∃ c, news[j]? = some c ∧ y.leaf = true ∧ Ra w (Sd B St s.o ι w) s.o ι c y := by
  rcases hu with ⟨rfl, rfl⟩ | ⟨ad, k, c, news, rfl, hk2, hnl, hnc, hnr⟩
  ·refine ⟨v, w, [], run_append_owned_none w B t ty e i de.size hux i1 v l.length xs hown, by simpa using hown, ⟨rfl, rfl, rfl, Nat.le_refl _, fun _ _ _ => rfl⟩, fun b hb => .inl hb, fun j y hy => (by simp at hy)⟩
  ·subst hk2
   have one : ∀ x ∈ news, x.oneCell' = true := fun x hx => by
    obtain ⟨j, hj⟩ := List.getElem?_of_mem hx
    have hjl := (List.getElem?_eq_some_iff.1 hj).1
    have : j < m.flatten.length := by rw [zbh hm]; omega
    obtain ⟨c', hc', hl', hr'⟩ := hnr j _ (List.getElem?_eq_getElem this)
    rw [hj] at hc'
    cases hc'
    exact hr'.one hl'
   rw [← i2] at hown hnl
   obtain ⟨v', w', r1, r2, r3, r4⟩ := zhA (P := P) B t ty e i z hux i1 i4 hzs (by omega) v l.length xs hown ad m.length c news hnl hnc one (by simp only [maxLen]; omega) (by rw [i3]; exact hb1) h.hB
   rw [i2] at r2
   exact ⟨v', w', news, r1, r2, r3, r4, hnr⟩
 have hxl : xs.length = l.length * de.size := hown.1
 have v1 : v'.oneCell' = true := by rcases r2.2 with ⟨h4, _⟩ | ⟨_, _, _, h4, _⟩ <;> (rw [h4]; rfl)
 have oid : (s.ob id ⟨g, .rowA e de.size (l ++ m)⟩).o id = ⟨g, .rowA e de.size (l ++ m)⟩ := if_pos rfl
 refine ⟨fun j => if j = id then v' else ι j, v', w', r1, Rel.next h id _ v' dst _ _ ?_ (fun j hj => if_neg hj) (if_pos rfl) (Nat.le_of_lt hg) (fun e2 => absurd e2 (Nat.ne_of_lt hg)) (fun b hb hne => r3.block b hb (fun e2 => hne (hmbv b e2.symm))) (fun b e2 => ?_) (fun mT mA => ?_) (fun mT mA _ => ?_)⟩
 ·exact (Below.refl B w).grown r3 h.hB (fun b hb => (hown.lt b hb).1)
 ·unfold mb at e2
  rw [oid] at e2
  simp only [if_true] at e2
  have : v'.ownBlock = some b := by
   cases v' <;> first | (cases v1; done) | skip
   all_goals first
    | (rcases r2.2 with ⟨h4, _⟩ | ⟨_, _, _, h4, _⟩ <;> cases h4; done)
    | (rename_i p _ _; cases p <;> first | (cases e2; done) | exact e2)
  rcases r4 b this with h5 | h5
  ·exact .inl (hmbv b h5)
  ·exact .inr h5
 ·refine ⟨fun x hx => ?_, xs ++ news, by rw [List.length_append]; exact r2, fun j y hy => ?_⟩
  ·rcases List.mem_append.1 hx with hx | hx
   ·exact hl x hx
   ·exact hm x hx
  ·rw [List.flatten_append] at hy
   have hfl : l.flatten.length = xs.length := by rw [hxl, zbh hl]
   by_cases hj : j < l.flatten.length
   ·rw [List.getElem?_append_left hj] at hy
    obtain ⟨c, p1, p2, p3⟩ := hxs j y hy
    exact ⟨c, by rw [List.getElem?_append_left (by omega)]; exact p1, p2, mA _ _ p3⟩
   ·rw [List.getElem?_append_right (by omega)] at hy
    obtain ⟨c, p1, p2, p3⟩ := r5 _ y hy
    exact ⟨c, by rw [List.getElem?_append_right (by omega), ← hfl]; exact p1, p2, mA _ _ p3⟩
 ·refine .row ?_ (fun _ => (if_pos rfl : (if id = id then v' else ι id) = v').symm) v1
  rw [oid]
  exact Nat.le_refl _
end
end Go.Proofs.YtbhoeanfnbkenaaGreatDoor
namespace Go.Proofs.YtbhoeanfnbkenaaGreatDoor
open Go.RowKit
section
variable {P : Program} {tt : Tys} {Hy : World → Prop} {X : World → (Nat → Prop) → (Nat → O) → (Nat → Value) → Prop} {B : Nat} {St : Nat → Prop} {Dp : List Deferred → Prop} {w0 w : World} {s : S} {ι : Nat → Value} {a : Act}
theorem zdR (h : Rel Hy X B St w0 Dp s ι a w) (id : Nat) (e : TypeId) (z : Nat) (l : List (List T)) (v : Value) (w' : World) (xs : List Value) (hb : Below w.heap.size w w')
  (hr : w'.ownsRow w.heap.size e z v l.length xs) (hl : ∀ x ∈ l, x.length = z) (hc : ∀ (j : Nat) y, l.flatten[j]? = some y → ∃ c, xs[j]? = some c ∧ y.leaf = true ∧ Rt w (Sd B St s.o ι w) c y) (d : Option Nat) :
  ∃ ι', Rel Hy X B St w0 Dp ((s.ob id ⟨(s.o id).gen + 1, .row e z l⟩).put d (.row id ((s.o id).gen + 1))) ι' (a.put d v) w' := by
 have oid : (s.ob id ⟨(s.o id).gen + 1, .row e z l⟩).o id = ⟨(s.o id).gen + 1, .row e z l⟩ := if_pos rfl
 have v1 : v.oneCell' = true := by rcases hr.2 with ⟨h4, _⟩ | ⟨_, _, _, h4, _⟩ <;> (rw [h4]; rfl)
 refine ⟨fun i => if i = id then v else ι i, Rel.next h id _ v d _ _ (hb.mono h.hB) (fun i hi => if_neg hi) (if_pos rfl) (Nat.le_succ _) (fun e => absurd e (Nat.ne_of_lt (Nat.lt_succ_self _))) (fun b hlt _ => hb.block b hlt) (fun b e => ?_) (fun mT mA => ?_) (fun mT mA _ => ?_)⟩
 ·unfold mb at e
  rw [oid] at e
  simp only [if_true] at e
  right
  refine (hr.lt b ?_).1
  rcases hr.2 with ⟨h4, _⟩ | ⟨_, _, _, h4, _⟩
  ·rw [h4] at e; cases e
  ·rw [h4] at e ⊢; exact e
 ·refine ⟨hl, xs, zft hr h.hB, fun j y hy => ?_⟩
  obtain ⟨c, p1, p2, p3⟩ := hc j y hy
  exact ⟨c, p1, p2, mT _ _ p3⟩
 ·refine .row ?_ (fun _ => (if_pos rfl : (if id = id then v else ι id) = v).symm) v1
  rw [oid]
  exact Nat.le_refl _
theorem zkV (h : Rel Hy X B St w0 Dp s ι a w) (id : Nat) (e : TypeId) (z : Nat) (l : List (List A)) (v : Value) (w' : World) (xs : List Value) (hb : Below w.heap.size w w')
  (hr : w'.ownsRow w.heap.size e z v l.length xs) (hl : ∀ x ∈ l, x.length = z) (hc : ∀ (j : Nat) y, l.flatten[j]? = some y → ∃ c, xs[j]? = some c ∧ y.leaf = true ∧ Ra w (Sd B St s.o ι w) s.o ι c y) (d : Option Nat) :
  ∃ ι', Rel Hy X B St w0 Dp ((s.ob id ⟨(s.o id).gen + 1, .rowA e z l⟩).put d (.row id ((s.o id).gen + 1))) ι' (a.put d v) w' := by
 have oid : (s.ob id ⟨(s.o id).gen + 1, .rowA e z l⟩).o id = ⟨(s.o id).gen + 1, .rowA e z l⟩ := if_pos rfl
 have v1 : v.oneCell' = true := by rcases hr.2 with ⟨h4, _⟩ | ⟨_, _, _, h4, _⟩ <;> (rw [h4]; rfl)
 refine ⟨fun i => if i = id then v else ι i, Rel.next h id _ v d _ _ (hb.mono h.hB) (fun i hi => if_neg hi) (if_pos rfl) (Nat.le_succ _) (fun e => absurd e (Nat.ne_of_lt (Nat.lt_succ_self _))) (fun b hlt _ => hb.block b hlt) (fun b e => ?_) (fun mT mA => ?_) (fun mT mA _ => ?_)⟩
 ·unfold mb at e
  rw [oid] at e
  simp only [if_true] at e
  right
  refine (hr.lt b ?_).1
  rcases hr.2 with ⟨h4, _⟩ | ⟨_, _, _, h4, _⟩
  ·rw [h4] at e; cases e
  ·rw [h4] at e ⊢; exact e
 ·refine ⟨hl, xs, zft hr h.hB, fun j y hy => ?_⟩
  obtain ⟨c, p1, p2, p3⟩ := hc j y hy
  exact ⟨c, p1, p2, mA _ _ p3⟩
 ·refine .row ?_ (fun _ => (if_pos rfl : (if id = id then v else ι id) = v).symm) v1
  rw [oid]
  exact Nat.le_refl _
theorem zhE (a : Act) (parts : Array (Nat × Operand)) (n : Nat) (h : parts.toList.map (·.1) = List.range n) :
  (parts.map fun (i, x) => (i, a.eval x)).toList = ((parts.toList.map fun p => a.eval p.2).zipIdx 0).map fun x => (x.2, x.1) := by
 rw [Array.toList_map]
 apply List.ext_getElem?
 intro j
 simp only [List.getElem?_map, List.getElem?_zipIdx, Nat.zero_add]
 cases hj : parts.toList[j]? with
 | none => simp
 | some p =>
  have : (parts.toList.map (·.1))[j]? = some p.1 := by rw [List.getElem?_map, hj]; rfl
  rw [h] at this
  have h2 := List.getElem?_eq_some_iff.1 this
  simp at h2
  simp [h2.2]
theorem zkW (h : Rel Hy X B St w0 Dp s ι a w) (hT : Tys.ok P tt) {K : S → Prop} {dst : Option Nat} {cls : Nat → Nat} {ty : TypeId} {n : Nat} {parts : Array (Nat × Operand)} (hk : Ek P Hy tt cls dst (.buildSlice ty n parts) s K) :
  ∃ ι' s' v w', (Instr.buildSlice ty n (parts.map fun (i, x) => (i, a.eval x))).run P w = .ok v w' ∧ Rel Hy X B St w0 Dp s' ι' (a.put dst v) w' ∧ K s' := by
 obtain ⟨d, _, hk⟩ := zE hk
 obtain ⟨td, hd, hk⟩ := zE hk
 split at hk
 ·rename_i e he
  obtain ⟨de, hde, hk⟩ := zE hk
  obtain ⟨u, hu, hok⟩ := (hT _ _ hd).desc
  obtain ⟨hok, _⟩ := hok
  rw [he] at hok
  simp only [TK.ok] at hok
  subst hok
  obtain ⟨i, z, i1, i2, i3, i4, i5⟩ := (hT _ _ hde).info
  by_cases hn0 : n = 0
  ·rw [if_pos hn0] at hk
   obtain ⟨hp, hk0⟩ := hk
   obtain rfl : parts = #[] := Array.toList_eq_nil_iff.1 hp
   subst hn0
   have hrun : (Instr.buildSlice ty 0 ((#[] : Array (Nat × Operand)).map fun (i, x) => (i, a.eval x))).run P w = .ok (.slice (some ⟨w.heap.size, 0, none⟩) 0 0) (w.alloc (.cells #[] e)) := by
    simp [Instr.buildSlice, run_underlying hu, sizeOf, typeInfo, i1, Instr.fill, newRow]
    exact congrArg (fun c => w.alloc (.cells c e)) (Array.eq_empty_of_size_eq_zero (by simp))
   obtain ⟨ι', hR⟩ := zdR h (cls d) e de.size [] (.slice (some ⟨w.heap.size, 0, none⟩) 0 0) (w.alloc (.cells #[] e)) [] ((Below.refl _ w).alloc (Nat.le_refl _) _)
    (World.ownsRow_lit (base := w.heap.size) (e := e) (size := de.size) w #[] 0 (Nat.le_refl _) (Nat.zero_le _) (by simp)) (fun x hx => (by cases hx)) (fun j y hy => (by simp at hy)) dst
   exact ⟨ι', _, _, _, hrun, hR, hk0⟩
  rw [if_neg hn0] at hk
  obtain ⟨⟨c1, c2, c3, c4, c5⟩, hk⟩ := hk
  have hzs : z.cells.size = i.size := by rw [i2, ← c5, ← i5]; simp
  have hev : ∀ (j : Nat) x, (parts.toList.map fun p => s.ev p.2)[j]? = some x → Ra w (Sd B St s.o ι w) s.o ι ((parts.toList.map fun p => a.eval p.2).getD j undef) x := fun j x hx => by
   rw [List.getElem?_map] at hx
   obtain ⟨x0, h0, rfl⟩ := Option.map_eq_some_iff.1 hx
   rw [show (parts.toList.map fun p => a.eval p.2).getD j undef = a.eval x0.2 by simp only [List.getD_eq_getElem?_getD, List.getElem?_map, h0]; rfl]
   exact h.ev x0.2
  split at hk
  ·obtain ⟨ts, ids, g1, g2, g3, hall, _, hk⟩ := zcQ h (parts.toList.map fun p => s.ev p.2) _ hev (zem hk)
   obtain ⟨k1, k2, k3⟩ := Rel.frz h g1
   generalize hvs : parts.toList.map (fun p => a.eval p.2) = vs at g3
   have hpl : parts.toList.length = n := by have := congrArg List.length c1; simpa using this
   have hvl : vs.length = n := by rw [← hvs]; simpa using hpl
   have htl : ts.length = n := by rw [g2]; simpa using hpl
   have cell : ∀ (j : Nat) t, ts[j]? = some t → ∃ v, vs[j]? = some v ∧ Rt w (Sd B St (s.frz ids).o ι w) v t := fun j t ht => by
    have hj : j < vs.length := by have := (List.getElem?_eq_some_iff.1 ht).1; omega
    refine ⟨vs[j], List.getElem?_eq_getElem hj, ?_⟩
    have := (g3 j t ht).rt h g1
    rwa [show vs.getD j undef = vs[j] by simp [hj]] at this
   have hall2 : ∀ t ∈ ts, (zas t).length = de.size ∧ (zas t).all T.leaf = true := fun t ht => by
    have := List.all_eq_true.1 hall t ht
    rw [Bool.and_eq_true, beq_iff_eq] at this
    exact this
   have hvz : ∀ v ∈ vs, v.cells.size = de.size := fun v hv => by
    obtain ⟨j, hj⟩ := List.getElem?_of_mem hv
    have hjl : j < ts.length := by have := (List.getElem?_eq_some_iff.1 hj).1; omega
    obtain ⟨v', hv', hr⟩ := cell j _ (List.getElem?_eq_getElem hjl)
    rw [hj] at hv'
    cases hv'
    rw [(zfs hr).1]
    exact (hall2 _ (List.getElem_mem hjl)).1
   have hf := Great.fill_whole c2 vs ((Array.range (n * de.size)).map (z.cells[· % z.cells.size]!)) hvz (by simp [hvl])
   rw [← hvs, ← zhE a parts n c1, hvs] at hf
   have hrun := run_buildSlice (P := P) w ty e n (parts.map fun (i, x) => (i, a.eval x)) _ i z hu i1 i4 (by rw [i2]; omega) (by rw [i2]; exact Nat.ne_of_gt (Nat.mul_pos c3 c2)) (by rw [i2]; exact hf)
   have hsz : (vs.flatMap fun v => v.cells.toList).length = n * de.size := by
    have e1 := zbh (l := vs.map fun v => v.cells.toList) (z := de.size) (fun x hx => by obtain ⟨v, hv, rfl⟩ := List.mem_map.1 hx; simpa using hvz v hv)
    rw [List.flatMap_def, e1, List.length_map, hvl]
   obtain ⟨ι', hR⟩ := zdR k1 (cls d) e de.size (ts.map zas) (.slice (some ⟨w.heap.size, 0, none⟩) n n) (w.alloc (.cells (vs.flatMap fun v => v.cells.toList).toArray e)) (vs.flatMap fun v => v.cells.toList)
    ((Below.refl _ w).alloc (Nat.le_refl _) _) (by
     have := World.ownsRow_lit (base := w.heap.size) (e := e) (size := de.size) w (vs.flatMap fun v => v.cells.toList).toArray n (Nat.le_refl _) (by simp only [maxLen]; have := Nat.le_mul_of_pos_right n c2; omega) (by simpa using hsz)
     simpa [htl] using this)
    (fun x hx => by obtain ⟨t, ht, rfl⟩ := List.mem_map.1 hx; exact (hall2 t ht).1)
    (fun j y hy => by
     have hz1 : ∀ x ∈ ts.map zas, x.length = de.size := fun x hx => by obtain ⟨t, ht, rfl⟩ := List.mem_map.1 hx; exact (hall2 t ht).1
     have hjl := (List.getElem?_eq_some_iff.1 hy).1
     rw [zbh hz1, List.length_map, htl] at hjl
     have hq : j / de.size < n := Nat.div_lt_of_lt_mul (by rw [Nat.mul_comm]; exact hjl)
     have hm := Nat.mod_lt j c2
     have hdm := Nat.div_add_mod j de.size
     have hts : ts[j / de.size]? = some ts[j / de.size] := List.getElem?_eq_getElem (by omega)
     obtain ⟨v, hv, hr⟩ := cell _ _ hts
     obtain ⟨q1, q2⟩ := zfs hr
     have hlen := (hall2 _ (List.mem_of_getElem? hts)).1
     have hcy : (zas ts[j / de.size])[j % de.size]? = some y := by
      have hin : (ts.map zas)[j / de.size]? = some (zas ts[j / de.size]) := by rw [List.getElem?_map, hts]; rfl
      have he2 : (zas ts[j / de.size])[j % de.size]? = some (zas ts[j / de.size])[j % de.size] := List.getElem?_eq_getElem (by omega)
      have := zcE hz1 hin he2
      rw [show j / de.size * de.size + j % de.size = j by rw [Nat.mul_comm]; omega, hy] at this
      rw [he2, ← this]
     obtain ⟨c, hc, hcr⟩ := q2 _ y hcy
     refine ⟨c, ?_, List.all_eq_true.1 (hall2 _ (List.mem_of_getElem? hts)).2 y (List.mem_of_getElem? hcy), hcr⟩
     rw [Great.flat_get c2 vs hvz j, hv]
     exact hc) dst
   exact ⟨ι', _, _, _, hrun, hR, hk⟩
  ·obtain ⟨hall, hk⟩ := hk
   generalize hts : parts.toList.map (fun p => s.ev p.2) = ts at hev hall
   have g2 : ts.length = parts.toList.length := by rw [← hts, List.length_map]
   have hmap : (parts.toList.map fun p => z7 (s.ev p.2)) = ts.map z7 := by rw [← hts, List.map_map]; rfl
   rw [hmap] at hk
   generalize hvs : parts.toList.map (fun p => a.eval p.2) = vs at hev
   have hpl : parts.toList.length = n := by have := congrArg List.length c1; simpa using this
   have hvl : vs.length = n := by rw [← hvs]; simpa using hpl
   have htl : ts.length = n := by rw [g2]; exact hpl
   have cell : ∀ (j : Nat) t, ts[j]? = some t → ∃ v, vs[j]? = some v ∧ Ra w (Sd B St s.o ι w) s.o ι v t := fun j t ht => by
    have hj : j < vs.length := by have := (List.getElem?_eq_some_iff.1 ht).1; omega
    refine ⟨vs[j], List.getElem?_eq_getElem hj, ?_⟩
    have := hev j t ht
    rwa [show vs.getD j undef = vs[j] by simp [hj]] at this
   have hall2 : ∀ t ∈ ts, (z7 t).length = de.size ∧ (z7 t).all A.leaf = true := fun t ht => by
    have := List.all_eq_true.1 hall t ht
    rw [Bool.and_eq_true, beq_iff_eq] at this
    exact this
   have hvz : ∀ v ∈ vs, v.cells.size = de.size := fun v hv => by
    obtain ⟨j, hj⟩ := List.getElem?_of_mem hv
    have hjl : j < ts.length := by have := (List.getElem?_eq_some_iff.1 hj).1; omega
    obtain ⟨v', hv', hr⟩ := cell j _ (List.getElem?_eq_getElem hjl)
    rw [hj] at hv'
    cases hv'
    rw [(zdb hr (hall2 _ (List.getElem_mem hjl)).2).1]
    exact (hall2 _ (List.getElem_mem hjl)).1
   have hf := Great.fill_whole c2 vs ((Array.range (n * de.size)).map (z.cells[· % z.cells.size]!)) hvz (by simp [hvl])
   rw [← hvs, ← zhE a parts n c1, hvs] at hf
   have hrun := run_buildSlice (P := P) w ty e n (parts.map fun (i, x) => (i, a.eval x)) _ i z hu i1 i4 (by rw [i2]; omega) (by rw [i2]; exact Nat.ne_of_gt (Nat.mul_pos c3 c2)) (by rw [i2]; exact hf)
   have hsz : (vs.flatMap fun v => v.cells.toList).length = n * de.size := by
    have e1 := zbh (l := vs.map fun v => v.cells.toList) (z := de.size) (fun x hx => by obtain ⟨v, hv, rfl⟩ := List.mem_map.1 hx; simpa using hvz v hv)
    rw [List.flatMap_def, e1, List.length_map, hvl]
   obtain ⟨ι', hR⟩ := zkV h (cls d) e de.size (ts.map z7) (.slice (some ⟨w.heap.size, 0, none⟩) n n) (w.alloc (.cells (vs.flatMap fun v => v.cells.toList).toArray e)) (vs.flatMap fun v => v.cells.toList)
    ((Below.refl _ w).alloc (Nat.le_refl _) _) (by
     have := World.ownsRow_lit (base := w.heap.size) (e := e) (size := de.size) w (vs.flatMap fun v => v.cells.toList).toArray n (Nat.le_refl _) (by simp only [maxLen]; have := Nat.le_mul_of_pos_right n c2; omega) (by simpa using hsz)
     simpa [htl] using this)
    (fun x hx => by obtain ⟨t, ht, rfl⟩ := List.mem_map.1 hx; exact (hall2 t ht).1)
    (fun j y hy => by
     have hz1 : ∀ x ∈ ts.map z7, x.length = de.size := fun x hx => by obtain ⟨t, ht, rfl⟩ := List.mem_map.1 hx; exact (hall2 t ht).1
     have hjl := (List.getElem?_eq_some_iff.1 hy).1
     rw [zbh hz1, List.length_map, htl] at hjl
     have hq : j / de.size < n := Nat.div_lt_of_lt_mul (by rw [Nat.mul_comm]; exact hjl)
     have hm := Nat.mod_lt j c2
     have hdm := Nat.div_add_mod j de.size
     have hts' : ts[j / de.size]? = some ts[j / de.size] := List.getElem?_eq_getElem (by omega)
     obtain ⟨v, hv, hr⟩ := cell _ _ hts'
     obtain ⟨q1, q2⟩ := zdb hr (hall2 _ (List.mem_of_getElem? hts')).2
     have hlen := (hall2 _ (List.mem_of_getElem? hts')).1
     have hcy : (z7 ts[j / de.size])[j % de.size]? = some y := by
      have hin : (ts.map z7)[j / de.size]? = some (z7 ts[j / de.size]) := by rw [List.getElem?_map, hts']; rfl
      have he2 : (z7 ts[j / de.size])[j % de.size]? = some (z7 ts[j / de.size])[j % de.size] := List.getElem?_eq_getElem (by omega)
      have := zcE hz1 hin he2
      rw [show j / de.size * de.size + j % de.size = j by rw [Nat.mul_comm]; omega, hy] at this
      rw [he2, ← this]
     obtain ⟨c, hc, hcr⟩ := q2 _ y hcy
     refine ⟨c, ?_, List.all_eq_true.1 (hall2 _ (List.mem_of_getElem? hts')).2 y (List.mem_of_getElem? hcy), hcr⟩
     rw [Great.flat_get c2 vs hvz j, hv]
     exact hc) dst
   exact ⟨ι', _, _, _, hrun, hR, hk⟩
 ·exact hk.elim
theorem zdS {α : Type} (t : α) : ∀ m : Nat, (List.replicate m [t]).flatten = List.replicate m t
 | 0 => rfl
 | m + 1 => by rw [List.replicate_succ, List.flatten_cons, zdS t m, List.replicate_succ]; rfl
theorem zkX (h : Rel Hy X B St w0 Dp s ι a w) (hT : Tys.ok P tt) {K : S → Prop} {dst : Option Nat} {cls : Nat → Nat} {ty : TypeId} {n c : Operand} (hk : Ek P Hy tt cls dst (.makeSlice ty n c) s K) :
  ∃ ι' s' v w', (Instr.makeSlice ty (a.eval n) (a.eval c)).run P w = .ok v w' ∧ Rel Hy X B St w0 Dp s' ι' (a.put dst v) w' ∧ K s' := by
 obtain ⟨d, _, hk⟩ := zE hk
 obtain ⟨td, hd, hk⟩ := zE hk
 split at hk
 ·rename_i e he
  obtain ⟨de, hde, hk⟩ := zE hk
  obtain ⟨u, hu, hok⟩ := (hT _ _ hd).desc
  obtain ⟨hok, _⟩ := hok
  rw [he] at hok
  simp only [TK.ok] at hok
  subst hok
  obtain ⟨i, z, i1, i2, i3, i4, i5⟩ := (hT _ _ hde).info
  split at hk
  ·rename_i k x k' m zv e1 e2 e3
   obtain ⟨rfl, h0, hle, hz1, hby, hk⟩ := hk
   have hn := h.ev n
   rw [e1] at hn
   have hc := h.ev c
   rw [e2] at hc
   have hzc : z.cells = #[zv] := by rw [e3] at i5; exact Array.toList_inj.1 i5
   obtain ⟨w', r1, r2, r3⟩ := run_makeSlice_full (P := P) w w.heap.size ty e i z 1 hu i1 i4 (by omega) k k' x.toNat (by omega) (by rw [i3]; calc de.bytes * x.toNat ≤ 1000 * x.toNat := Nat.mul_le_mul_right _ hby
     _ ≤ 281474976710656 := by omega) (by simp only [maxLen]; omega) (Nat.le_refl _)
   rw [hn.int, hc.int]
   rw [show ((x.toNat : Nat) : Int) = x by omega] at r1
   rw [hzc, Nat.mul_one, toList_madeCells_one] at r2
   have hb : Below w.heap.size w w' := (Below.refl _ w).grown r3 (Nat.le_refl _) (fun _ e => (by cases e))
   have row : ∀ t : T, t.leaf = true → Rt w (Sd B St s.o ι w) zv t → ∃ ι', Rel Hy X B St w0 Dp ((s.ob (cls d) ⟨(s.o (cls d)).gen + 1, .row e 1 (List.replicate x.toNat [t])⟩).put dst (.row (cls d) ((s.o (cls d)).gen + 1))) ι' (a.put dst (.slice (some ⟨w.heap.size, 0, none⟩) x.toNat x.toNat)) w' := fun t ht hr =>
    zdR h (cls d) e 1 (List.replicate x.toNat [t]) _ w' _ hb (by simpa using r2) (fun y hy => by rw [List.eq_of_mem_replicate hy]; rfl) (fun j y hy => by
     rw [zdS, List.getElem?_replicate] at hy
     split at hy
     ·rename_i hj
      cases hy
      exact ⟨zv, by rw [List.getElem?_replicate, if_pos hj], ht, hr⟩
     ·cases hy) dst
   have hcz := zcG (w := w) (ι := ι) (Sd B St s.o ι w) s.o zv
   split at hk
   ·rename_i t ht
    rw [ht] at hcz
    have hleaf : t.leaf = true := by
     revert ht
     unfold zaN
     split <;> intro ht <;> cases ht <;> rfl
    obtain ⟨ι', hR⟩ := row t hleaf hcz.dat
    exact ⟨ι', _, _, w', r1, hR, hk⟩
   ·rename_i ht
    rw [ht] at hcz
    obtain ⟨ι', hR⟩ := row (.sl []) rfl (by rw [hcz.nil_get]; exact .sl0 _ _ (fun _ => rfl))
    exact ⟨ι', _, _, w', r1, hR, hk⟩
   ·exact hk.elim
  ·exact hk.elim
 ·exact hk.elim
theorem zhF (h : Rel Hy X B St w0 Dp s ι a w) {z : Nat} {v : Value} {x : A} (hx : Ra w (Sd B St s.o ι w) s.o ι v x) {K : List (List T) → Prop} (hk : zbY s.o z x K) : ∃ l, Src w (Sd B St s.o ι w) v z l ∧ (∀ e ∈ l, e.length = z) ∧ K l := by
 unfold zbY at hk
 split at hk
 ·rename_i l
  exact ⟨l, zhB hx.dat hk.1, hk.1, hk.2⟩
 ·exact ⟨[], .inl ⟨hx.nil_get, rfl⟩, fun _ h => (by cases h), hk⟩
 ·rename_i id g
  obtain ⟨hg, hk⟩ := hk
  have hv := hx.row_get hg
  have ho := h.ob id
  split at hk
  ·rename_i ty z' l hkk
   obtain ⟨rfl, hk⟩ := hk
   rw [hkk] at ho
   obtain ⟨h1, xs, h2, h3⟩ := ho
   refine ⟨l, ?_, h1, hk⟩
   rw [hv]
   have hx2 := h2
   rcases h2.2 with ⟨h4, h5⟩ | ⟨g', cap, cur, h4, hb, hg2, _⟩
   ·exact .inl ⟨h4, List.length_eq_zero_iff.1 h5⟩
   ·rw [h4] at hx2 ⊢
    refine .inr ⟨_, _, _, xs, rfl, rfl, h2.1, fun j u hu => hx2.cells (g := g') rfl j u hu, h3⟩
  ·rename_i l hkk
   rw [hkk] at ho
   exact ⟨l, by rw [hv]; exact zhB ho hk.1, hk.1, hk.2⟩
  ·exact hk.elim
 ·exact hk.elim
theorem zkY (h : Rel Hy X B St w0 Dp s ι a w) {z : Nat} {v : Value} {x : A} (hx : Ra w (Sd B St s.o ι w) s.o ι v x) {K : List (List A) → Prop} (hk : zcb s.o z x K) : ∃ l, zfu w (Sd B St s.o ι w) s.o ι v z l ∧ (∀ e ∈ l, e.length = z) ∧ K l := by
 unfold zcb at hk
 split at hk
 ·split at hk
  ·rename_i id g _
   obtain ⟨hg, hk⟩ := hk
   have hv := hx.row_get hg
   have ho := h.ob id
   split at hk
   ·rename_i ty z' l hkk
    obtain ⟨rfl, hk⟩ := hk
    rw [hkk] at ho
    obtain ⟨h1, xs, h2, h3⟩ := ho
    refine ⟨l, ?_, h1, hk⟩
    rw [hv]
    have hx2 := h2
    rcases h2.2 with ⟨h4, h5⟩ | ⟨g', cap, cur, h4, hb, hg2, _⟩
    ·exact .inl ⟨h4, List.length_eq_zero_iff.1 h5⟩
    ·rw [h4] at hx2 ⊢
     refine .inr ⟨_, _, _, xs, rfl, rfl, h2.1, fun j u hu => hx2.cells (g := g') rfl j u hu, h3⟩
   ·exact hk.elim
  ·exact hk.elim
 ·obtain ⟨l, h1, h2, hk⟩ := zhF h hx hk
  refine ⟨_, h1.up _ _, fun e he => ?_, hk⟩
  obtain ⟨e', he', rfl⟩ := List.mem_map.1 he
  rw [List.length_map]
  exact h2 e' he'
theorem zkZ {t t' e e' ty : TypeId} (h : P.underlying t = some (.slice e)) (h' : P.underlying t' = some (.slice e')) (args : Array Value) : (Builtin.append_ #[t, t'] ty args).run P w = (Builtin.append_ #[t, t] ty args).run P w := by
 unfold Builtin.append_
 cases h0 : args[0]? with
 | none => rfl
 | some s => cases h1 : args[1]? with
  | none => rfl
  | some x => cases s <;> simp [run_underlying h, run_underlying h']
theorem zk0 (h : Rel Hy X B St w0 Dp s ι a w) (hT : Tys.ok P tt) {K : S → Prop} {dst : Option Nat} {cls : Nat → Nat} {args : List Operand} {tys : List TypeId} (hk : apK tt cls dst (args.map s.ev) tys s K) (ty : TypeId) (cs : Array Bool) :
  ∃ ι' s' v w', (builtin .append tys.toArray ty cs (args.map a.eval).toArray).run P w = .ok (.value v) w' ∧ Rel Hy X B St w0 Dp s' ι' (a.put dst v) w' ∧ K s' := by
 unfold apK at hk
 split at hk
 ·rename_i x y t t' hargs
  obtain ⟨x0, y0, rfl, rfl, rfl⟩ : ∃ x0 y0, args = [x0, y0] ∧ s.ev x0 = x ∧ s.ev y0 = y := by
   match args, hargs with
   | [x0, y0], e => exact ⟨x0, y0, rfl, by simpa using e⟩
  obtain ⟨d, hdd, hk⟩ := zE hk
  obtain ⟨td, hd, hk⟩ := zE hk
  by_cases htt : t = t' ∨ zdM tt t' = true
  ·simp only [if_pos htt] at hk
   split at hk
   ·rename_i e he
    obtain ⟨de, hde, ⟨hpos, hzl⟩, hk⟩ := zE hk
    have hx := h.ev x0
    have same : (Builtin.append_ #[t, t'] ty #[a.eval x0, a.eval y0]).run P w = (Builtin.append_ #[t, t] ty #[a.eval x0, a.eval y0]).run P w := by
     rcases htt with rfl | htt
     ·rfl
     ·unfold zdM at htt
      split at htt
      ·rename_i d' hd'
       split at htt
       ·rename_i e' he'
        obtain ⟨u1, hu1, hok1⟩ := (hT _ _ hd).desc
        obtain ⟨u2, hu2, hok2⟩ := (hT _ _ hd').desc
        rw [he] at hok1
        rw [he'] at hok2
        have hok1 := hok1.1
        have hok2 := hok2.1
        simp only [TK.ok] at hok1 hok2
        subst hok1 hok2
        exact zkZ hu1 hu2 _
       ·cases htt
      ·cases htt
    have fin : ∀ {v : Value} {w' : World}, (Builtin.append_ #[t, t] ty #[a.eval x0, a.eval y0]).run P w = .ok v w' → (builtin .append #[t, t'] ty cs #[a.eval x0, a.eval y0]).run P w = .ok (.value v) w' := fun hr => zbW _ (same.trans hr)
    split at hk
    ·obtain ⟨m, hsrc, hml, hk⟩ := zkY h (h.ev y0) hk
     split at hk
     ·rename_i e1
      rw [e1] at hx
      obtain ⟨⟨hb1, hb2⟩, hk⟩ := hk
      obtain ⟨ι', v', w', r1, r2⟩ := zfv (P := P) h hT hd he hde hpos hzl ty (cls d) (a.eval x0) (a.eval y0) [] m ((s.o (cls d)).gen + 1) (.inl ⟨hx.nil_get, rfl⟩) (fun _ h => (by cases h)) hml hsrc (Nat.lt_succ_self _) (by simpa using hb1) (by simpa using hb2) dst
      exact ⟨ι', _, v', w', fin r1, r2, hk⟩
     ·rename_i id g e1
      rw [e1] at hx
      obtain ⟨hg, hk⟩ := hk
      split at hk
      ·rename_i e' z l hkk
       obtain ⟨rfl, rfl, ⟨hb1, hb2⟩, hk⟩ := hk
       have ho := h.ob id
       rw [hkk] at ho
       obtain ⟨ι', v', w', r1, r2⟩ := zfv (P := P) h hT hd he hde hpos hzl ty id (a.eval x0) (a.eval y0) (l.map fun e => e.map .t) m (g + 1) (.inr (.inr ⟨hx.row_get hg, _, rfl, hkk⟩)) (fun x hx => by obtain ⟨x', hx', rfl⟩ := List.mem_map.1 hx; rw [List.length_map]; exact ho.1 x' hx') hml hsrc (by rw [hg]; exact Nat.lt_succ_self _) (by rw [List.length_map]; exact hb1) (by rw [List.length_map]; exact hb2) dst
       exact ⟨ι', _, v', w', fin r1, r2, hk⟩
      ·rename_i e' z l hkk
       obtain ⟨rfl, rfl, ⟨hb1, hb2⟩, hk⟩ := hk
       have ho := h.ob id
       rw [hkk] at ho
       obtain ⟨ι', v', w', r1, r2⟩ := zfv (P := P) h hT hd he hde hpos hzl ty id (a.eval x0) (a.eval y0) l m (g + 1) (.inr (.inl ⟨hx.row_get hg, hkk⟩)) ho.1 hml hsrc (by rw [hg]; exact Nat.lt_succ_self _) hb1 hb2 dst
       exact ⟨ι', _, v', w', fin r1, r2, hk⟩
      ·exact hk.elim
     ·exact hk.elim
    ·obtain ⟨m, hsrc, hml, hk⟩ := zhF h (h.ev y0) hk
     split at hk
     ·rename_i e1
      rw [e1] at hx
      obtain ⟨⟨hb1, hb2⟩, hk⟩ := hk
      obtain ⟨ι', v', w', r1, r2⟩ := zhD (P := P) h hT hd he hde hpos hzl ty (cls d) (a.eval x0) (a.eval y0) [] m ((s.o (cls d)).gen + 1) (.inl ⟨hx.nil_get, rfl⟩) (fun _ h => (by cases h)) hml hsrc (Nat.lt_succ_self _) (by simpa using hb1) (by simpa using hb2) dst
      exact ⟨ι', _, v', w', fin r1, r2, hk⟩
     ·rename_i id g e1
      rw [e1] at hx
      obtain ⟨hg, hk⟩ := hk
      split at hk
      ·rename_i e' z l hkk
       obtain ⟨rfl, rfl, ⟨hb1, hb2⟩, hk⟩ := hk
       have ho := h.ob id
       rw [hkk] at ho
       obtain ⟨ι', v', w', r1, r2⟩ := zhD (P := P) h hT hd he hde hpos hzl ty id (a.eval x0) (a.eval y0) l m (g + 1) (.inr ⟨hx.row_get hg, _, rfl, hkk⟩) ho.1 hml hsrc (by rw [hg]; exact Nat.lt_succ_self _) hb1 hb2 dst
       exact ⟨ι', _, v', w', fin r1, r2, hk⟩
      ·exact hk.elim
     ·exact hk.elim
   ·exact hk.elim
  ·simp only [if_neg htt] at hk
   split at hk
   ·rename_i e he
    obtain ⟨de, hde, hk⟩ := zE hk
    obtain ⟨dt, hdt, ⟨hz1, kn, hkn⟩, hk⟩ := zE hk
    obtain ⟨u1, hu1, hok1⟩ := (hT _ _ hd).desc
    obtain ⟨u2, hu2, hok2⟩ := (hT _ _ hdt).desc
    rw [he] at hok1
    rw [hkn] at hok2
    have hok1 := hok1.1
    have hok2 := hok2.1
    simp only [TK.ok] at hok1 hok2
    subst hok1 hok2
    obtain ⟨i, z, i1, i2, i3, i4, i5⟩ := (hT _ _ hde).info
    have hx := h.ev x0
    have hy := h.ev y0
    split at hk
    ·rename_i k n zv e1 e2 e3
     rw [e1] at hx
     rw [e2] at hy
     obtain ⟨⟨h0, hle, hby⟩, hk⟩ := hk
     have hzc : z.cells = #[zv] := by rw [e3] at i5; exact Array.toList_inj.1 i5
     have r1 := Lib.run_append_nil_zeros (P := P) w t t' ty e i z k kn hu1 hu2 i1 i4 n.toNat (by omega) (by omega) (by omega) (by rw [i3]; calc n.toNat * de.bytes ≤ n.toNat * 1000 := Nat.mul_le_mul_left _ hby
      _ ≤ 281474976710656 := by omega)
     rw [show ((n.toNat : Nat) : Int) = n by omega] at r1
     have hge := grownCap_ge w n.toNat 0 e
     have hcm := grownCap_le_maxLen w n.toNat 0 e (by simp only [maxLen]; omega)
     have zc : ∀ m, (Builtin.zeroCells z.cells m).toList = List.replicate m zv := fun m => by
      rw [hzc]
      apply List.ext_getElem?
      intro j
      simp only [Builtin.zeroCells, List.getElem?_replicate]
      by_cases hj : j < m
      ·simp [hj, Nat.mod_one]
      ·simp [hj]
     have hown : (w.drew.alloc (.cells (Builtin.zeroCells z.cells n.toNat ++ Builtin.zeroCells z.cells (grownCap w n.toNat 0 e - n.toNat)) e)).ownsRow w.heap.size e 1 (.slice (some ⟨w.heap.size, 0, none⟩) n.toNat (grownCap w n.toNat 0 e)) n.toNat (List.replicate n.toNat zv) := by
      refine ⟨by simp, .inr ⟨w.heap.size, _, _, rfl, Nat.le_refl _, heap_alloc_new w.drew _, hge, hcm, ?_, ?_⟩⟩
      ·have q1 := congrArg List.length (zc n.toNat)
       have q2 := congrArg List.length (zc (grownCap w n.toNat 0 e - n.toNat))
       simp only [Array.length_toList, List.length_replicate] at q1 q2
       rw [Array.size_append, q1, q2]
       omega
      ·rw [Array.toList_append, zc, zc, Nat.mul_one]
       exact List.take_left' (by simp)
     have hb : Below w.heap.size w (w.drew.alloc (.cells (Builtin.zeroCells z.cells n.toNat ++ Builtin.zeroCells z.cells (grownCap w n.toNat 0 e - n.toNat)) e)) := ((Below.refl _ w).drew).alloc (Nat.le_refl _) _
     split at hk
     ·rename_i u hcu
      have hcz := zcG (w := w) (ι := ι) (Sd B St s.o ι w) s.o zv
      rw [hcu] at hcz
      have hleaf : u.leaf = true := by
       revert hcu
       unfold zaN
       split <;> intro hcu <;> cases hcu <;> rfl
      obtain ⟨ι', hR⟩ := zdR h (cls d) e 1 (List.replicate n.toNat [u]) _ _ _ hb (by simpa using hown) (fun y hy => by rw [List.eq_of_mem_replicate hy]; rfl) (fun j y hy => by
       rw [zdS, List.getElem?_replicate] at hy
       split at hy
       ·rename_i hj
        cases hy
        exact ⟨zv, by rw [List.getElem?_replicate, if_pos hj], hleaf, hcz.dat⟩
       ·cases hy) dst
      refine ⟨ι', _, _, _, ?_, hR, hk⟩
      have hv : a.eval x0 = .slice none 0 0 := hx.nil_get
      have hv2 := hy.int
      show (builtin .append #[t, t'] ty cs #[a.eval x0, a.eval y0]).run P w = _
      rw [hv, hv2]
      exact zbW _ r1
     ·rename_i hcu
      have hcz := zcG (w := w) (ι := ι) (Sd B St s.o ι w) s.o zv
      rw [hcu] at hcz
      obtain ⟨ι', hR⟩ := zdR h (cls d) e 1 (List.replicate n.toNat [.sl []]) _ _ _ hb (by simpa using hown) (fun y hy => by rw [List.eq_of_mem_replicate hy]; rfl) (fun j y hy => by
       rw [zdS, List.getElem?_replicate] at hy
       split at hy
       ·rename_i hj
        cases hy
        exact ⟨zv, by rw [List.getElem?_replicate, if_pos hj], rfl, by rw [hcz.nil_get]; exact .sl0 _ _ (fun _ => rfl)⟩
       ·cases hy) dst
      refine ⟨ι', _, _, _, ?_, hR, hk⟩
      have hv : a.eval x0 = .slice none 0 0 := hx.nil_get
      have hv2 := hy.int
      show (builtin .append #[t, t'] ty cs #[a.eval x0, a.eval y0]).run P w = _
      rw [hv, hv2]
      exact zbW _ r1
     ·exact hk.elim
    ·rename_i id g k n zv e1 e2 e3
     rw [e1] at hx
     rw [e2] at hy
     obtain ⟨hg, hk⟩ := hk
     split at hk
     ·rename_i e' z' l hkk
      obtain ⟨rfl, rfl, ⟨h0, hle, hby⟩, hk⟩ := hk
      split at hk
      ·rename_i u hcu
       have hzc : z.cells = #[zv] := by rw [e3] at i5; exact Array.toList_inj.1 i5
       have hcz := zcG (w := w) (ι := ι) (Sd B St s.o ι w) s.o zv
       rw [hcu] at hcz
       have hleaf : u.leaf = true := by
        revert hcu
        unfold zaN
        split <;> intro hcu <;> cases hcu <;> rfl
       have ho := h.ob id
       rw [hkk] at ho
       obtain ⟨n', rfl⟩ : ∃ n' : Nat, n = n' := ⟨n.toNat, by omega⟩
       rw [Int.toNat_natCast] at hk hle
       obtain ⟨ι', v', w', r1, r2⟩ := zhC (P := P) (op := Builtin.append_ #[t, t'] ty #[a.eval x0, a.eval y0]) h id (a.eval x0) l (List.replicate n' [u]) (g + 1) (.inr ⟨hx.row_get hg, _, rfl, hkk⟩) ho.1 (fun y hy => by rw [List.eq_of_mem_replicate hy]; rfl) (by rw [hg]; exact Nat.lt_succ_self _) (fun xs hown => by
        obtain ⟨v', w', q1, q2, q3, q4⟩ := zkU (P := P) B t t' ty e' i z zv k kn hu1 hu2 i1 i4 hzc (by rw [i2, hz1]) (by rw [i3]; exact hby) (hcz.dat.one hleaf) (a.eval x0) l.length xs hown n' hle h.hB
        refine ⟨v', w', List.replicate n' zv, by rw [hy.int]; exact q1, by rw [List.length_replicate]; exact q2, q3, q4, fun j y hj => ?_⟩
        rw [zdS, List.getElem?_replicate] at hj
        split at hj
        ·rename_i hjn
         cases hj
         exact ⟨zv, by rw [List.getElem?_replicate, if_pos hjn], hleaf, hcz.dat⟩
        ·cases hj) dst
       exact ⟨ι', _, v', w', zbW _ r1, r2, hk⟩
      ·exact hk.elim
     ·exact hk.elim
    ·exact hk.elim
   ·exact hk.elim
 ·exact hk.elim
theorem zcR {b : Option Operand} {d : Int} {K : Int → Prop} (h : Rel Hy X B St w0 Dp s ι a w) (hk : slB (b.map s.ev) d K) : ∃ n, K n ∧ ((b = none ∧ b.map a.eval = none ∧ n = d) ∨ ∃ k, b.map a.eval = some (.int k n)) := by
 cases b with
 | none => exact ⟨d, hk, .inl ⟨rfl, rfl, rfl⟩⟩
 | some x =>
  simp only [slB, Option.map_some] at hk
  split at hk
  ·rename_i e
   cases e
  ·rename_i k n e
   have hx := h.ev x
   rw [Option.some.inj e] at hx
   exact ⟨n, hk, .inr ⟨k, by rw [Option.map_some, hx.int]⟩⟩
  ·exact hk.elim
theorem zep {ty e : TypeId} (hu : P.underlying ty = some (.slice e)) {de : TD} (te : TdOk P e de) (p : Option Addr) (len cap : Nat) (lo hi : Option Value) (l h : Int) (hl : (lo = none ∧ l = 0) ∨ ∃ k, lo = some (.int k l)) (hh : (hi = none ∧ h = len) ∨ ∃ k, hi = some (.int k h))
  (h0 : 0 ≤ l) (h1 : l ≤ h) (h2 : h ≤ len) (h3 : len ≤ cap) : (Instr.sliceAt ty (.slice p len cap) lo hi none).run P w = .ok (sliced p l.toNat h.toNat cap de.size) w := by
 have he : P.elem ty = e := by simp [Program.elem, hu]
 have hu2 : P.underlying ty = some (.slice (P.elem ty)) := by rw [he]; exact hu
 have sz : (sizeOf (P.elem ty)).run P w = .ok de.size w := by rw [he]; exact te.size
 rw [run_sliceAt_slice w ty _ _ _ _ hu2]
 rcases hl with ⟨rfl, rfl⟩ | ⟨kl, rfl⟩
 ·rcases hh with ⟨rfl, rfl⟩ | ⟨kh, rfl⟩
  ·rw [run_slice_all w ty p len cap hu2, sz]
   rfl
  ·rw [run_slice_h w ty p len cap hu2 kh h (by omega) (by omega), sz]
   rfl
 ·rcases hh with ⟨rfl, rfl⟩ | ⟨kh, rfl⟩
  ·rw [run_slice_l w ty p len cap hu2 kl l (by omega) (by omega), sz]
   rfl
  ·rw [run_slice_lh w ty p len cap hu2 kl kh l h (by omega) (by omega) (by omega), sz]
   rfl
theorem zk1 {ty : TypeId} (hu : P.underlying ty = some .string) (b : ByteArray) (lo hi : Option Value) (l h : Int) (hl : (lo = none ∧ l = 0) ∨ ∃ k, lo = some (.int k l)) (hh : (hi = none ∧ h = b.size) ∨ ∃ k, hi = some (.int k h))
  (h0 : 0 ≤ l) (h1 : l ≤ h) (h2 : h ≤ b.size) : (Instr.sliceAt ty (.string b) lo hi none).run P w = .ok (.string (b.extract l.toNat h.toNat)) w := by
 rw [run_sliceAt_string w ty _ _ _ _ hu]
 rcases hl with ⟨rfl, rfl⟩ | ⟨kl, rfl⟩
 ·rcases hh with ⟨rfl, rfl⟩ | ⟨kh, rfl⟩
  ·exact run_slice_string_all w ty b hu
  ·exact run_slice_string_h w ty b hu kh h (by omega) (by omega)
 ·rcases hh with ⟨rfl, rfl⟩ | ⟨kh, rfl⟩
  ·exact run_slice_string_l w ty b hu kl l (by omega) (by omega)
  ·exact run_slice_string w ty b kl kh l h hu (by omega) (by omega) (by omega)
theorem zhG {α : Type} {z : Nat} : ∀ {l : List (List α)} (i : Nat), (∀ e ∈ l, e.length = z) → (l.drop i).flatten = l.flatten.drop (i * z)
 | l, 0, _ => by simp
 | [], i + 1, _ => by simp
 | x :: l, i + 1, h => by
  rw [List.drop_succ_cons, zhG i (fun e he => h e (List.mem_cons_of_mem _ he)), List.flatten_cons, show (i + 1) * z = x.length + i * z by rw [h x List.mem_cons_self, Nat.add_mul]; omega, List.drop_length_add_append]
theorem zhH {α : Type} {l : List (List α)} {n j : Nat} {t : α} (h : (l.take n).flatten[j]? = some t) : l.flatten[j]? = some t := by
 have : l.flatten = (l.take n).flatten ++ (l.drop n).flatten := by rw [← List.flatten_append, List.take_append_drop]
 rw [this, List.getElem?_append_left (List.getElem?_eq_some_iff.1 h).1]
 exact h
theorem zk2 {D : Nat → Prop} {v : Value} {xs : List (List T)} {z : Nat} (h : Rt w D v (.sl xs)) (hz : ∀ c ∈ xs, c.length = z) : ∃ p cap, v = .slice p xs.length cap ∧ xs.length ≤ cap ∧ ∀ l h : Nat, l ≤ h → h ≤ xs.length → Rt w D (sliced p l h cap z) (.sl ((xs.drop l).take (h - l))) := by
 cases h with
 | sl0 p cap hp =>
  refine ⟨p, cap, rfl, Nat.zero_le _, fun l h h1 h2 => ?_⟩
  have : h = 0 := by simpa using h2
  subst this
  have : l = 0 := by omega
  subst this
  unfold sliced
  simp only [List.drop_nil, List.take_nil, Nat.sub_self, Nat.sub_zero]
  refine .sl0 _ _ (fun e => ?_)
  split at e
  ·exact hp e
  ·cases p with
   | none => exact hp rfl
   | some a => cases e
 | sl g o n cap z' _ c hn hq hD hz' hc hl hr =>
  subst hn
  refine ⟨_, cap, rfl, hq, fun l h h1 h2 => ?_⟩
  unfold sliced
  by_cases hlh : l = h
  ·subst hlh
   rw [Nat.sub_self, List.take_zero]
   refine .sl0 _ _ (fun e => ?_)
   split at e <;> cases e
  ·have hne : cap ≠ l := by omega
   have hzz : z' = z := by
    have hm : xs[l]? = some xs[l] := List.getElem?_eq_getElem (by omega)
    rw [← hz' _ (List.mem_of_getElem? hm), hz _ (List.mem_of_getElem? hm)]
   subst hzz
   rw [if_neg hne, Option.map_some, Addr.add_mid]
   have hsub : ∀ e ∈ (xs.drop l).take (h - l), e.length = z' := fun e he => hz' e (List.mem_of_mem_drop (List.mem_of_mem_take he))
   have hlen : ((xs.drop l).take (h - l)).length = h - l := by simp; omega
   have get : ∀ (j : Nat) t, ((xs.drop l).take (h - l)).flatten[j]? = some t → xs.flatten[l * z' + j]? = some t := fun j t ht => by
    have := zhH ht
    rwa [zhG l hz', List.getElem?_drop] at this
   refine .sl g (o + l * z') _ _ z' _ (fun j => c (l * z' + j)) hlen.symm (by omega) hD hsub (fun j hj => ?_) (fun j t ht => hl _ t (get j t ht)) (fun j t ht => hr _ t (get j t ht))
   rw [Nat.add_assoc]
   refine hc _ ?_
   rw [hlen] at hj
   calc l * z' + j < l * z' + (h - l) * z' := by omega
    _ = (l + (h - l)) * z' := (Nat.add_mul _ _ _).symm
    _ ≤ xs.length * z' := Nat.mul_le_mul_right _ (by omega)
theorem zk3 (h : Rel Hy X B St w0 Dp s ι a w) (hT : Tys.ok P tt) {K : S → Prop} {dst : Option Nat} {cls : Nat → Nat} {ty : TypeId} {x : Operand} {lo hi mx : Option Operand} (hk : Ek P Hy tt cls dst (.slice ty x lo hi mx) s K) :
  ∃ ι' s' v, (Instr.sliceAt ty (a.eval x) (lo.map a.eval) (hi.map a.eval) (mx.map a.eval)).run P w = .ok v w ∧ Rel Hy X B St w0 Dp s' ι' (a.put dst v) w ∧ K s' := by
 obtain ⟨rfl, hk⟩ := hk
 obtain ⟨d, _, hk⟩ := zE hk
 obtain ⟨td, hd, hk⟩ := zE hk
 obtain ⟨u, hu, hok⟩ := (hT _ _ hd).desc
 have hok := hok.1
 have hx := h.ev x
 split at hk
 ·rename_i b e1 e2
  rw [e1] at hok
  simp only [TK.ok] at hok
  subst hok
  rw [e2] at hx
  obtain ⟨l, hk, hl⟩ := zcR h hk
  obtain ⟨r, ⟨⟨h0, h1, h2⟩, hk⟩, hr⟩ := zcR h hk
  rw [hx.str]
  exact ⟨ι, _, _, zk1 hu b _ _ l r (hl.imp (fun q => q.2) id) (hr.imp (fun q => q.2) id) h0 h1 h2, h.pure _ _ _ (fun _ => .t (.s _)), hk⟩
 ·rename_i e xs e1 e2
  rw [e1] at hok
  simp only [TK.ok] at hok
  subst hok
  rw [e2] at hx
  obtain ⟨de, hde, hk⟩ := zE hk
  obtain ⟨l, hk, hl⟩ := zcR h hk
  obtain ⟨r, ⟨⟨h0, h1, h2⟩, hz, hk⟩, hr⟩ := zcR h hk
  obtain ⟨p, cap, hv, hc, hsub⟩ := zk2 hx.dat hz
  rw [hv]
  refine ⟨ι, _, _, zep hu (hT _ _ hde) p xs.length cap _ _ l r (hl.imp (fun q => q.2) id) (hr.imp (fun q => q.2) id) h0 h1 h2 hc, h.pure _ _ _ (fun _ => .t ?_), hk⟩
  have := hsub l.toNat r.toNat (by omega) (by omega)
  rwa [show r.toNat - l.toNat = (r - l).toNat by omega] at this
 ·rename_i e e1 e2
  rw [e1] at hok
  simp only [TK.ok] at hok
  subst hok
  rw [e2] at hx
  obtain ⟨de, hde, hk⟩ := zE hk
  obtain ⟨l, hk1, hl⟩ := zcR h hk
  obtain ⟨r, ⟨⟨hl0, hr0⟩, hk2⟩, hr⟩ := zcR h hk1
  rw [hl0] at hl
  rw [hr0] at hr
  rw [hx.nil_get]
  exact ⟨ι, _, _, zep hu (hT _ _ hde) none 0 0 _ _ 0 0 (hl.imp (fun q => q.2) (fun q => q)) (hr.imp (fun q => q.2) (fun q => q)) (Int.le_refl _) (Int.le_refl _) (Int.le_refl _) (Nat.le_refl _), h.pure _ _ _ (fun _ => .nilS), hk2⟩
 ·rename_i e id g e1 e2
  rw [e1] at hok
  simp only [TK.ok] at hok
  subst hok
  rw [e2] at hx
  obtain ⟨hg, hlo, hk⟩ := hk
  have hv := hx.row_get hg
  cases hkk : (s.o id).k with
  | none => rw [hkk] at hk; exact hk.elim
  | cells ty l => rw [hkk] at hk; exact hk.elim
  | ro l => rw [hkk] at hk; exact hk.elim
  | rowA ty z l => rw [hkk] at hk; exact hk.elim
  | map ks l => rw [hkk] at hk; exact hk.elim
  | row e' z l =>
   rw [hkk] at hk
   obtain ⟨he, ⟨de, hde, hz⟩, hk⟩ := hk
   subst he hz
   obtain ⟨r, ⟨⟨h0, h1⟩, hk⟩, hr⟩ := zcR h hk
   have ho := h.ob id
   rw [hkk] at ho
   obtain ⟨k1, xs, k2, k3⟩ := ho
   have hlm : lo.map a.eval = none := by rw [hlo]; rfl
   have hxl : xs.length = l.length * de.size := k2.1
   have hsub : ∀ c ∈ l.take r.toNat, c.length = de.size := fun c hc => k1 c (List.mem_of_mem_take hc)
   have hlen : (l.take r.toNat).length = r.toNat := by simp; omega
   have oid : (s.ob id ⟨g + 1, .row e' de.size (l.take r.toNat)⟩).o id = ⟨g + 1, .row e' de.size (l.take r.toNat)⟩ := if_pos rfl
   have pre : ∀ (j : Nat) y, (l.take r.toNat).flatten[j]? = some y → ∃ c, (xs.take (r.toNat * de.size))[j]? = some c ∧ y.leaf = true ∧ Rt w (Sd B St s.o ι w) c y := fun j y hy => by
    obtain ⟨c, p1, p2, p3⟩ := k3 j y (zhH hy)
    have hj := (List.getElem?_eq_some_iff.1 hy).1
    rw [zbh hsub, hlen] at hj
    exact ⟨c, by rw [List.getElem?_take, if_pos hj]; exact p1, p2, p3⟩
   obtain ⟨v', hrun, hown, hblk⟩ : ∃ v', (Instr.sliceAt ty (ι id) (lo.map a.eval) (hi.map a.eval) none).run P w = .ok v' w ∧ w.ownsRow B e' de.size v' (l.take r.toNat).length (xs.take (r.toNat * de.size)) ∧ ∀ b, Value.blk v' = some b → mb s.o ι id = some b := by
    rw [hlm]
    rcases k2.2 with ⟨h4, h5⟩ | ⟨g', cap, cur, h4, hb, hg2, hle, hcm, hcs, htk⟩
    ·have hr0 : r = 0 := by omega
     rw [h4]
     refine ⟨.slice none 0 0, ?_, ?_, fun b e => (by cases e)⟩
     ·have := zep hu (hT _ _ hde) (w := w) none 0 0 none (hi.map a.eval) 0 r (.inl ⟨rfl, rfl⟩) (hr.imp (fun q => ⟨q.2.1, by rw [q.2.2, h5]⟩) (fun q => q)) (Int.le_refl _) (by omega) (by omega) (Nat.le_refl _)
      rw [this, hr0]
      rfl
     ·rw [hlen, hr0]
      have : xs.take (Int.toNat 0 * de.size) = [] := by simp
      rw [this]
      exact World.ownsRow_nil _ _ _ _
    ·rw [h4]
     refine ⟨.slice (some ⟨g', 0, none⟩) r.toNat cap, ?_, ?_, fun b e => ?_⟩
     ·have := zep hu (hT _ _ hde) (w := w) (some ⟨g', 0, none⟩) l.length cap none (hi.map a.eval) 0 r (.inl ⟨rfl, rfl⟩) (hr.imp (fun q => q.2) (fun q => q)) (Int.le_refl _) h0 h1 hle
      rw [this]
      simp [sliced, Addr.add_mid]
     ·refine ⟨by rw [hlen, List.length_take, hxl]; exact Nat.min_eq_left (Nat.mul_le_mul_right _ (by omega)), .inr ⟨g', cap, cur, by rw [hlen], hb, hg2, by rw [hlen]; omega, hcm, hcs, ?_⟩⟩
      rw [hlen, ← htk, List.take_take, Nat.min_eq_left (Nat.mul_le_mul_right _ (by omega))]
     ·unfold mb
      rw [hkk, h4]
      exact e
   have v1 : v'.oneCell' = true := by rcases hown.2 with ⟨h4, _⟩ | ⟨_, _, _, h4, _⟩ <;> (rw [h4]; rfl)
   refine ⟨fun j => if j = id then v' else ι j, _, v', by rw [hv]; exact hrun, Rel.next (w' := w) h id ⟨g + 1, .row e' de.size (l.take r.toNat)⟩ v' dst _ _ (Below.refl _ _) (fun j hj => if_neg hj) (if_pos rfl) (by rw [← hg]; exact Nat.le_succ _) (fun e2 => by rw [← hg] at e2; exact absurd e2 (Nat.ne_of_lt (Nat.lt_succ_self _))) (fun _ _ _ => rfl) (fun b e2 => .inl ?_) (fun mT mA => ?_) (fun mT mA _ => ?_), hk⟩
   ·unfold mb at e2
    rw [oid] at e2
    simp only [if_true] at e2
    exact hblk b e2
   ·refine ⟨hsub, _, hown, fun j y hy => ?_⟩
    obtain ⟨c, p1, p2, p3⟩ := pre j y hy
    exact ⟨c, p1, p2, mT _ _ p3⟩
   ·refine .row ?_ (fun _ => (if_pos rfl : (if id = id then v' else ι id) = v').symm) v1
    rw [oid]
    exact Nat.le_refl _
 ·exact hk.elim
end
end Go.Proofs.YtbhoeanfnbkenaaGreatDoor
