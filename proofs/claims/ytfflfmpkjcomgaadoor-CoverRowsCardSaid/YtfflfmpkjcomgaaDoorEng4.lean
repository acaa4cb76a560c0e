/- The engine, 4: operations that make, write, or freeze objects; calls. -/
import Derived.Test.YtfflfmpkjcomgaaDoorEng3
namespace Go.Proofs.YtfflfmpkjcomgaaDoor
open Go.RowKit

/-- what objects are turned to -/
abbrev Ups := List (Nat × O)
/-- as data: rows are frozen -/
def frz0 (o : Nat → O) (x : A) (K : T → Ups → Prop) : Prop := match x with
  | .t x => K x []
  | .nilS => K (.sl []) []
  | .row id g => g = (o id).gen ∧ match (o id).k with
    | .row _ _ l => K (.sl l) [(id, ⟨g, .ro l⟩)]
    | .ro l => K (.sl l) []
    | _ => False
  | _ => False
def frzC0 (o : Nat → O) : List A → (List T → Ups → Prop) → Prop
  | [], K => K [] []
  | x :: l, K => x.leaf = true ∧ frz0 o x fun t i => frzC0 o l fun ts is => K (t :: ts) (i ++ is)
def frzE (o : Nat → O) : List (List A) → (List (List T) → Ups → Prop) → Prop
  | [], K => K [] []
  | e :: l, K => frzC0 o e fun t i => frzE o l fun ts is => K (t :: ts) (i ++ is)
def frz1 (o : Nat → O) (x : A) (K : T → Ups → Prop) : Prop := match x with
  | .t x => K x []
  | .nilS => K (.sl []) []
  | .row id g => g = (o id).gen ∧ match (o id).k with
    | .row _ _ l => K (.sl l) [(id, ⟨g, .ro l⟩)]
    | .ro l => K (.sl l) []
    | .rowA _ _ l => frzE o l fun m i => K (.sl m) (i ++ [(id, ⟨g, .ro m⟩)])
    | _ => False
  | _ => False
def frzC (o : Nat → O) : List A → (List T → Ups → Prop) → Prop
  | [], K => K [] []
  | x :: l, K => x.leaf = true ∧ frz1 o x fun t i => frzC o l fun ts is => K (t :: ts) (i ++ is)
def frz (o : Nat → O) (x : A) (K : T → Ups → Prop) : Prop := match x with
  | .ag l => frzC o l fun ts is => K (.ag ts) is
  | .t x => K x []
  | .nilS => K (.sl []) []
  | .row id g => frz1 o (.row id g) K
  | _ => False
def frzL (o : Nat → O) : List A → (List T → Ups → Prop) → Prop
  | [], K => K [] []
  | x :: l, K => frz o x fun t i => frzL o l fun ts is => K (t :: ts) (i ++ is)
theorem frz0.imp {o : Nat → O} {x : A} {K K' : T → Ups → Prop} (hk : frz0 o x K) (h : ∀ t u, K t u → K' t u) : frz0 o x K' := by
  unfold frz0 at hk ⊢
  split at hk
  · exact h _ _ hk
  · exact h _ _ hk
  · obtain ⟨hg, hk⟩ := hk
    refine ⟨hg, ?_⟩
    split at hk
    · exact h _ _ hk
    · exact h _ _ hk
    · exact hk.elim
  · exact hk.elim
theorem frzC0.imp {o : Nat → O} : ∀ {l : List A} {K K' : List T → Ups → Prop}, frzC0 o l K → (∀ t u, K t u → K' t u) → frzC0 o l K'
  | [], _, _, hk, h => h _ _ hk
  | _ :: _, _, _, ⟨hl, hk⟩, h => ⟨hl, hk.imp fun _ _ hk => hk.imp fun _ _ => h _ _⟩
theorem frzE.imp {o : Nat → O} : ∀ {l : List (List A)} {K K' : List (List T) → Ups → Prop}, frzE o l K → (∀ t u, K t u → K' t u) → frzE o l K'
  | [], _, _, hk, h => h _ _ hk
  | _ :: _, _, _, hk, h => frzC0.imp hk fun _ _ hk => hk.imp fun _ _ => h _ _
/-- rows of handles left out -/
def mask (o : Nat → O) (id : Nat) : O := ⟨(o id).gen, match (o id).k with
  | .rowA .. => .none
  | k => k⟩
theorem frz1_mask {o : Nat → O} {x : A} {K : T → Ups → Prop} (hk : frz1 (mask o) x K) : frz1 o x K := by
  unfold frz1 at hk ⊢
  split at hk
  · exact hk
  · exact hk
  · obtain ⟨hg, hk⟩ := hk
    refine ⟨hg, ?_⟩
    simp only [mask] at hk hg
    split at hk
    · rename_i e
      split at e
      · cases e
      · rw [e]; rw [hg] at hk ⊢; exact hk
    · rename_i e
      split at e
      · cases e
      · rw [e]; exact hk
    · rename_i e
      split at e
      · cases e
      · rename_i hn
        exact absurd e (hn _ _ _)
    · exact hk.elim
  · exact hk
theorem frz1.imp {o : Nat → O} {x : A} {K K' : T → Ups → Prop} (hk : frz1 o x K) (h : ∀ t u, K t u → K' t u) : frz1 o x K' := by
  unfold frz1 at hk ⊢
  split at hk
  · exact h _ _ hk
  · exact h _ _ hk
  · obtain ⟨hg, hk⟩ := hk
    refine ⟨hg, ?_⟩
    split at hk
    · exact h _ _ hk
    · exact h _ _ hk
    · exact frzE.imp hk (fun _ _ => h _ _)
    · exact hk.elim
  · exact hk.elim
theorem frzC_mask {o : Nat → O} : ∀ {l : List A} {K : List T → Ups → Prop}, frzC (mask o) l K → frzC o l K
  | [], _, hk => hk
  | _ :: _, _, ⟨hl, hk⟩ => ⟨hl, (frz1_mask hk).imp fun _ _ hk => frzC_mask hk⟩
theorem frz_mask {o : Nat → O} {x : A} {K : T → Ups → Prop} (hk : frz (mask o) x K) : frz o x K := by
  unfold frz at hk ⊢
  split at hk
  · exact frzC_mask hk
  · exact hk
  · exact hk
  · exact frz1_mask hk
  · exact hk
theorem frzC.imp {o : Nat → O} : ∀ {l : List A} {K K' : List T → Ups → Prop}, frzC o l K → (∀ t u, K t u → K' t u) → frzC o l K'
  | [], _, _, hk, h => h _ _ hk
  | _ :: _, _, _, ⟨hl, hk⟩, h => ⟨hl, hk.imp fun _ _ hk => hk.imp fun _ _ => h _ _⟩
theorem frz.imp {o : Nat → O} {x : A} {K K' : T → Ups → Prop} (hk : frz o x K) (h : ∀ t u, K t u → K' t u) : frz o x K' := by
  unfold frz at hk ⊢
  split at hk
  · exact hk.imp fun _ _ => h _ _
  · exact h _ _ hk
  · exact h _ _ hk
  · exact hk.imp h
  · exact hk.elim
theorem frzL_mask {o : Nat → O} : ∀ {l : List A} {K : List T → Ups → Prop}, frzL (mask o) l K → frzL o l K
  | [], _, hk => hk
  | _ :: _, _, hk => (frz_mask hk).imp fun _ _ hk => frzL_mask hk
def S.frz (s : S) (up : Ups) : S := up.foldl (fun s p => s.ob p.1 p.2) s
def T.flat : T → Bool
  | .b _ => true
  | .i _ _ => true
  | .s _ => true
  | _ => false
def Rres (w : World) (D : Nat → Prop) (v : Value) : List T → Prop
  | [x] => Rt w D v x
  | l => ∃ (cs : Array Value) (c : Nat → Value), v = .tuple cs ∧ cs.size = l.length ∧ (∀ j, j < l.length → cs[j]? = some (c j)) ∧ ∀ (j : Nat) x, l[j]? = some x → Rt w D (c j) x
def resA : List T → A
  | [x] => .t x
  | l => .tup (l.map .t)
/-- a function, called with this data, tells that data, whatever else memory holds -/
structure Ct (P : Program) (Hy : World → Prop) (f : FuncId) (args r : List T) : Prop where
  fn : ∃ fn, P.funcs[f]? = some fn ∧ fn.name ≠ "runtime.NumGoroutine" ∧ fn.body ≠ none
  go : ∀ (w : World) (cargs : Array Value) (D : Nat → Prop), (∀ g, D g → g < w.heap.size) → (∀ w', Below w.heap.size w w' → Hy w') → cargs.size = args.length → (∀ (j : Nat) v t, cargs[j]? = some v → args[j]? = some t → Rt w D v t) →
    Calls P f cargs w fun e w' => ∃ v, e = .returned v ∧ Rres w' (fun g => D g ∨ (w.heap.size ≤ g ∧ g < w'.heap.size)) v r ∧ Below w.heap.size w w'

def cellsA : A → List A
  | .t (.ag l) => l.map .t
  | .ag l => l
  | x => [x]
def cellsT : T → List T
  | .ag l => l
  | x => [x]
def setR {α : Type} (l : List α) (off : Nat) (cs : List α) : List α := l.take off ++ cs ++ l.drop (off + cs.length)

def placesA (tt : Tys) : List (Nat × TypeId) → Option (List (Nat × Nat))
  | [] => some []
  | p :: l => match tt p.2, placesA tt l with
    | some d, some r => some ((p.1, d.size) :: r)
    | _, _ => none
def fillA (place : Nat → Option (Nat × Nat)) (l : List A) : List (Nat × A) → Option (List A)
  | [] => some l
  | (i, x) :: rest => match place i with
    | some (off, n) => if (cellsA x).length = n ∧ off + n ≤ l.length ∧ (cellsA x).all A.leaf = true then fillA place (setR l off (cellsA x)) rest else none
    | none => none
/-- has it no own row inside? -/
def A.plain : A → Bool
  | .t _ => true
  | .nilS => true
  | .ag l => l.all fun x => match x with
    | .t _ => true
    | .nilS => true
    | _ => false
  | _ => false
/-- the elements that are appended -/
def srcK (o : Nat → O) (z : Nat) (x : A) (K : List (List T) → Prop) : Prop := match x with
  | .t (.sl l) => (∀ e ∈ l, e.length = z) ∧ K l
  | .nilS => K []
  | .row id g => g = (o id).gen ∧ match (o id).k with
    | .row _ z' l => z' = z ∧ K l
    | .ro l => (∀ e ∈ l, e.length = z) ∧ K l
    | _ => False
  | _ => False
def isA (o : Nat → O) (x : A) : Bool := match x with
  | .row id _ => match (o id).k with
    | .rowA .. => true
    | _ => false
  | _ => false
def srcA (o : Nat → O) (z : Nat) (x : A) (K : List (List A) → Prop) : Prop := match isA o x with
  | true => match x with
    | .row id g => g = (o id).gen ∧ match (o id).k with
      | .rowA _ z' l => z' = z ∧ K l
      | _ => False
    | _ => False
  | false => srcK o z x fun l => K (l.map fun e => e.map .t)
def isSl (tt : Tys) (t : TypeId) : Bool := match tt t with
  | some d => match d.k with
    | .slice _ => true
    | _ => false
  | none => false
def apK (tt : Tys) (cls : Nat → Nat) (dst : Option Nat) (args : List A) (tys : List TypeId) (s : S) (K : S → Prop) : Prop := match args, tys with
  | [x, y], [t, t'] => optK dst fun d => optK (tt t) fun td => match td.k with
    | .slice e => if t = t' ∨ isSl tt t' = true then optK (tt e) fun de => (0 < de.size ∧ de.zero.length = de.size) ∧ match isA s.o x || isA s.o y with
      | true => srcA s.o de.size y fun m => match x with
        | .nilS => (m.length * de.bytes ≤ 140737488355328 ∧ m.length ≤ 9223372036854775807) ∧ K ((s.ob (cls d) ⟨(s.o (cls d)).gen + 1, .rowA e de.size m⟩).put dst (.row (cls d) ((s.o (cls d)).gen + 1)))
        | .row id g => g = (s.o id).gen ∧ match (s.o id).k with
          | .row e' z l => e' = e ∧ z = de.size ∧ ((l.length + m.length) * de.bytes ≤ 140737488355328 ∧ l.length + m.length ≤ 9223372036854775807) ∧ K ((s.ob id ⟨g + 1, .rowA e de.size ((l.map fun e => e.map .t) ++ m)⟩).put dst (.row id (g + 1)))
          | .rowA e' z l => e' = e ∧ z = de.size ∧ ((l.length + m.length) * de.bytes ≤ 140737488355328 ∧ l.length + m.length ≤ 9223372036854775807) ∧ K ((s.ob id ⟨g + 1, .rowA e de.size (l ++ m)⟩).put dst (.row id (g + 1)))
          | _ => False
        | _ => False
      | false => srcK s.o de.size y fun m => match x with
        | .nilS => (m.length * de.bytes ≤ 140737488355328 ∧ m.length ≤ 9223372036854775807) ∧ K ((s.ob (cls d) ⟨(s.o (cls d)).gen + 1, .row e de.size m⟩).put dst (.row (cls d) ((s.o (cls d)).gen + 1)))
        | .row id g => g = (s.o id).gen ∧ match (s.o id).k with
          | .row e' z l => e' = e ∧ z = de.size ∧ ((l.length + m.length) * de.bytes ≤ 140737488355328 ∧ l.length + m.length ≤ 9223372036854775807) ∧ K ((s.ob id ⟨g + 1, .row e de.size (l ++ m)⟩).put dst (.row id (g + 1)))
          | _ => False
        | _ => False
      else optK (tt e) fun de => optK (tt t') fun dt => (de.size = 1 ∧ ∃ k, dt.k = .int k) ∧ match x, y, de.zero with
        | .nilS, .t (.i _ n), [z] => (0 < n ∧ n ≤ 16777216 ∧ de.bytes ≤ 1000) ∧ match constC z with
          | .t u => K ((s.ob (cls d) ⟨(s.o (cls d)).gen + 1, .row e 1 (List.replicate n.toNat [u])⟩).put dst (.row (cls d) ((s.o (cls d)).gen + 1)))
          | .nilS => K ((s.ob (cls d) ⟨(s.o (cls d)).gen + 1, .row e 1 (List.replicate n.toNat [.sl []])⟩).put dst (.row (cls d) ((s.o (cls d)).gen + 1)))
          | _ => False
        | _, _, _ => False
    | _ => False
  | _, _ => False

def slB (b : Option A) (d : Int) (K : Int → Prop) : Prop := match b with
  | none => K d
  | some (.t (.i _ n)) => K n
  | _ => False
def callK (P : Program) (Hy : World → Prop) (dst : Option Nat) (f : FuncId) (L : List A) (s : S) (K : S → Prop) : Prop := frzL (mask s.o) L fun ts ids => ∃ r, Ct P Hy f ts r ∧ K ((if r.all T.flat then s else s.frz ids).put dst (resA r))
def getM (l : List (Ky × A)) (k : Ky) : Option A := (l.find? fun p => p.1 = k).map (·.2)
def putM (l : List (Ky × A)) (k : Ky) (y : A) : List (Ky × A) := if k ∈ l.map (·.1) then l.map (fun p => if p.1 = k then (k, y) else p) else l ++ [(k, y)]
def delM (l : List (Ky × A)) (k : Ky) : List (Ky × A) := l.filter fun p => decide (p.1 ≠ k)
def ksOf (tt : Tys) (t : TypeId) : KS := match tt t with
  | some d => match d.k with
    | .int q => .int q
    | .array n e => match tt e with
      | some d => match d.k with
        | .int q => .arr q n
        | _ => .str
      | none => .str
    | _ => .str
  | none => .str
def zA (tt : Tys) (t : TypeId) : A := match tt t with
  | some d => match d.agg, d.zero with
    | false, [v] => constC v
    | true, l => .ag (l.map constC)
    | _, _ => .junk
  | none => .junk
/-- the law of a map's type -/
structure MLaw (P : Program) (tt : Tys) (mt kt et : TypeId) : Prop where
  und : P.underlying mt = some (.map kt et)
  keyed : Go.Maps.Keyed P kt
  key : ∀ ky : Ky, ky.ok (ksOf tt kt) → ∃ l, keyOf P kt ky.v = some l
  zero : ∃ v, (∀ w : World, (zeroValue et).run P w = .ok v w) ∧ ∀ (w : World) (D : Nat → Prop) (o : Nat → O) (ι : Nat → Value), Ra w D o ι v (zA tt et)
def mapK (P : Program) (tt : Tys) (cls : Nat → Nat) (dst : Option Nat) (op : Op) (s : S) (K : S → Prop) : Prop := match op with
  | .makeMap mt none => optK dst fun d => optK (tt mt) fun td => match td.k with
    | .map kt et => MLaw P tt mt kt et ∧ K ((s.ob (cls d) ⟨(s.o (cls d)).gen + 1, .map (ksOf tt kt) []⟩).put dst (.row (cls d) ((s.o (cls d)).gen + 1)))
    | _ => False
  | .mapUpdate mt m x v => optK (tt mt) fun td => match td.k, s.ev m with
    | .map kt et, .row id g => MLaw P tt mt kt et ∧ g = (s.o id).gen ∧ match (s.o id).k with
      | .map ks l => ks = ksOf tt kt ∧ optK (kyA (s.ev x)) fun ky => ky.ok ks ∧ K ((s.ob id ⟨g, .map ks (putM l ky (s.ev v))⟩).put dst .junk)
      | _ => False
    | _, _ => False
  | .lookup mt m x c => optK (tt mt) fun td => match td.k, s.ev m with
    | .map kt et, .row id g => MLaw P tt mt kt et ∧ g = (s.o id).gen ∧ match (s.o id).k with
      | .map ks l => ks = ksOf tt kt ∧ optK (kyA (s.ev x)) fun ky => ky.ok ks ∧ match getM l ky with
        | some y => K (s.put dst (if c then .tup [y, .t (.b true)] else y))
        | none => K (s.put dst (if c then .tup [zA tt et, .t (.b false)] else zA tt et))
      | _ => False
    | _, _ => False
  | _ => False
def delK (P : Program) (tt : Tys) (dst : Option Nat) (args : List Operand) (tys : List TypeId) (s : S) (K : S → Prop) : Prop := match args, tys with
  | [m, x], [mt, _] => optK (tt mt) fun td => match td.k, s.ev m with
    | .map kt et, .row id g => MLaw P tt mt kt et ∧ g = (s.o id).gen ∧ match (s.o id).k with
      | .map ks l => ks = ksOf tt kt ∧ optK (kyA (s.ev x)) fun ky => ky.ok ks ∧ K ((s.ob id ⟨g, .map ks (delM l ky)⟩).put dst (.tup []))
      | _ => False
    | _, _ => False
  | _, _ => False
/-- operations that make or write objects -/
def Ek (P : Program) (Hy : World → Prop) (tt : Tys) (cls : Nat → Nat) (dst : Option Nat) (op : Op) (s : S) (K : S → Prop) : Prop := match op with
  | .box ty x => optK dst fun d => (cellsA (s.ev x)).all A.leaf = true ∧ K ((s.ob (cls d) ⟨(s.o (cls d)).gen + 1, .cells ty (cellsA (s.ev x))⟩).put dst (.ptr (cls d) ((s.o (cls d)).gen + 1) 0))
  | .alloc ty => optK dst fun d => optK (tt ty) fun td => (td.zero.map constC).all A.leaf = true ∧ K ((s.ob (cls d) ⟨(s.o (cls d)).gen + 1, .cells ty (td.zero.map constC)⟩).put dst (.ptr (cls d) ((s.o (cls d)).gen + 1) 0))
  | .store ty x v => optK (tt ty) fun td => match s.ev x with
    | .ptr id g off => g = (s.o id).gen ∧ match (s.o id).k with
      | .cells ty' l => ((cellsA (s.ev v)).length = td.size ∧ (cellsA (s.ev v)).all A.leaf = true ∧ off + td.size ≤ l.length) ∧ K ((s.ob id ⟨g, .cells ty' (setR l off (cellsA (s.ev v)))⟩).put dst .junk)
      | _ => False
    | .rp id g z i off => g = (s.o id).gen ∧ match (s.o id).k with
      | .row ty' z' l => z = z' ∧ frz (mask s.o) (s.ev v) fun t ids => ids = [] ∧ (cellsT t).length = td.size ∧ (cellsT t).all T.leaf = true ∧ optK (l[i]?) fun e => off + td.size ≤ e.length ∧ K ((s.ob id ⟨g, .row ty' z' (l.set i (setR e off (cellsT t)))⟩).put dst .junk)
      | .rowA ty' z' l => z = z' ∧ ((cellsA (s.ev v)).length = td.size ∧ (cellsA (s.ev v)).all A.leaf = true) ∧ optK (l[i]?) fun e => off + td.size ≤ e.length ∧ K ((s.ob id ⟨g, .rowA ty' z' (l.set i (setR e off (cellsA (s.ev v))))⟩).put dst .junk)
      | _ => False
    | _ => False
  | .makeSlice ty n c => optK dst fun d => optK (tt ty) fun td => match td.k with
    | .slice e => optK (tt e) fun de => match s.ev n, s.ev c, de.zero with
      | .t (.i _ n), .t (.i _ m), [z] => n = m ∧ 0 ≤ n ∧ n ≤ 16777216 ∧ de.size = 1 ∧ de.bytes ≤ 1000 ∧ (match constC z with
        | .t x => K ((s.ob (cls d) ⟨(s.o (cls d)).gen + 1, .row e 1 (List.replicate n.toNat [x])⟩).put dst (.row (cls d) ((s.o (cls d)).gen + 1)))
        | .nilS => K ((s.ob (cls d) ⟨(s.o (cls d)).gen + 1, .row e 1 (List.replicate n.toNat [.sl []])⟩).put dst (.row (cls d) ((s.o (cls d)).gen + 1)))
        | _ => False)
      | _, _, _ => False
    | _ => False
  | .buildSlice ty n parts => optK dst fun d => optK (tt ty) fun td => match td.k with
    | .slice e => optK (tt e) fun de => if n = 0 then (parts.toList = [] ∧ K ((s.ob (cls d) ⟨(s.o (cls d)).gen + 1, .row e de.size []⟩).put dst (.row (cls d) ((s.o (cls d)).gen + 1)))) else (parts.toList.map (·.1) = List.range n ∧ 0 < de.size ∧ 0 < n ∧ n * de.size ≤ 16777216 ∧ de.zero.length = de.size) ∧
      match (parts.toList.map fun p => s.ev p.2).all A.plain with
      | true => frzL (mask s.o) (parts.toList.map fun p => s.ev p.2) fun ts ids => ((ts.all fun t => (cellsT t).length == de.size && (cellsT t).all T.leaf) = true) ∧ (cls d ∉ ids.map (·.1)) ∧
        K (((s.frz ids).ob (cls d) ⟨((s.frz ids).o (cls d)).gen + 1, .row e de.size (ts.map cellsT)⟩).put dst (.row (cls d) (((s.frz ids).o (cls d)).gen + 1)))
      | false => ((parts.toList.map fun p => s.ev p.2).all fun x => (cellsA x).length == de.size && (cellsA x).all A.leaf) = true ∧
        K ((s.ob (cls d) ⟨(s.o (cls d)).gen + 1, .rowA e de.size (parts.toList.map fun p => cellsA (s.ev p.2))⟩).put dst (.row (cls d) ((s.o (cls d)).gen + 1)))
    | _ => False
  | .build ty parts => optK dst fun _ => optK (tt ty) fun td => match td.k with
    | .struct fs => optK (placesA tt fs) fun pl => optK (fillA (fun i => pl[i]?) (td.zero.map constC) (parts.toList.map fun p => (p.1, s.ev p.2))) fun l => l.all A.leaf = true ∧ K (s.put dst (.ag l))
    | .array _ e => optK (tt e) fun de => optK (fillA (fun i => some (i * de.size, de.size)) (td.zero.map constC) (parts.toList.map fun p => (p.1, s.ev p.2))) fun l => l.all A.leaf = true ∧ K (s.put dst (.ag l))
    | _ => False
  | .slice ty x lo hi mx => mx = none ∧ optK dst fun _ => optK (tt ty) fun d => match d.k, s.ev x with
    | .string, .t (.s b) => slB (lo.map s.ev) 0 fun l => slB (hi.map s.ev) b.size fun h => (0 ≤ l ∧ l ≤ h ∧ h ≤ b.size) ∧ K (s.put dst (.t (.s (b.extract l.toNat h.toNat))))
    | .slice e, .t (.sl xs) => optK (tt e) fun de => slB (lo.map s.ev) 0 fun l => slB (hi.map s.ev) xs.length fun h => (0 ≤ l ∧ l ≤ h ∧ h ≤ xs.length) ∧ (∀ c ∈ xs, c.length = de.size) ∧ K (s.put dst (.t (.sl ((xs.drop l.toNat).take (h - l).toNat))))
    | .slice e, .nilS => optK (tt e) fun _ => slB (lo.map s.ev) 0 fun l => slB (hi.map s.ev) 0 fun h => (l = 0 ∧ h = 0) ∧ K (s.put dst .nilS)
    | .slice e, .row id g => g = (s.o id).gen ∧ lo = none ∧ match (s.o id).k with
      | .row e' z l => e' = e ∧ (∃ de, tt e = some de ∧ de.size = z) ∧ slB (hi.map s.ev) l.length fun h => (0 ≤ h ∧ h ≤ l.length) ∧ K ((s.ob id ⟨g + 1, .row e' z (l.take h.toNat)⟩).put dst (.row id (g + 1)))
      | _ => False
    | _, _ => False
  | .makeMap mt r => mapK P tt cls dst (.makeMap mt r) s K
  | .mapUpdate mt m x v => mapK P tt cls dst (.mapUpdate mt m x v) s K
  | .lookup mt m x c => mapK P tt cls dst (.lookup mt m x c) s K
  | .call c => match c.callee with
    | .value (.func f) => callK P Hy dst f (c.args.toList.map s.ev) s K
    | .value (.tmp t) => match s.ev (.tmp t) with
      | .fn f l m => callK P Hy dst f (l ++ c.args.toList.map s.ev ++ m) s K
      | _ => False
    | .builtin .append => apK tt cls dst (c.args.toList.map s.ev) c.argTypes.toList s K
    | .builtin .delete => delK P tt dst c.args.toList c.argTypes.toList s K
    | _ => False
  | _ => False

section
variable {P : Program} {tt : Tys} {Hy : World → Prop} {X : World → (Nat → Prop) → (Nat → O) → (Nat → Value) → Prop} {B : Nat} {St : Nat → Prop} {Dp : List Deferred → Prop} {w0 w : World} {s : S} {ι : Nat → Value} {a : Act}

/-- objects that may be frozen so -/
def UpOk (w : World) (B : Nat) (St : Nat → Prop) (s : S) (ι : Nat → Value) (up : Ups) : Prop :=
  ∀ p ∈ up, ∃ m, p.2 = ⟨(s.o p.1).gen, .ro m⟩ ∧ ∀ D' : Nat → Prop, (∀ g, Sd B St s.o ι w g → D' g) → (∀ q ∈ up, ∀ g, mb s.o ι q.1 = some g → D' g) → Rt w D' (ι p.1) (.sl m)
/-- a value, once these rows are frozen -/
def Fz (w : World) (B : Nat) (St : Nat → Prop) (s : S) (ι : Nat → Value) (up : Ups) (v : Value) (t : T) : Prop :=
  ∀ D' : Nat → Prop, (∀ g, Sd B St s.o ι w g → D' g) → (∀ q ∈ up, ∀ g, mb s.o ι q.1 = some g → D' g) → Rt w D' v t
theorem UpOk.nil : UpOk w B St s ι [] := fun _ h => by cases h
theorem UpOk.app {a b : Ups} (h : UpOk w B St s ι a) (k : UpOk w B St s ι b) : UpOk w B St s ι (a ++ b) := fun p hp => by
  rcases List.mem_append.1 hp with hp | hp
  · obtain ⟨m, h1, h2⟩ := h p hp
    exact ⟨m, h1, fun D' hd hq => h2 D' hd (fun q hqm => hq q (List.mem_append_left _ hqm))⟩
  · obtain ⟨m, h1, h2⟩ := k p hp
    exact ⟨m, h1, fun D' hd hq => h2 D' hd (fun q hqm => hq q (List.mem_append_right _ hqm))⟩
theorem Fz.left {a b : Ups} {v : Value} {t : T} (h : Fz w B St s ι a v t) : Fz w B St s ι (a ++ b) v t := fun D' hd hq => h D' hd (fun q hqm => hq q (List.mem_append_left _ hqm))
theorem Fz.right {a b : Ups} {v : Value} {t : T} (h : Fz w B St s ι b v t) : Fz w B St s ι (a ++ b) v t := fun D' hd hq => h D' hd (fun q hqm => hq q (List.mem_append_right _ hqm))

theorem Rt.wide {w : World} {D D' : Nat → Prop} {v : Value} {t : T} (h : Rt w D v t) (hd : ∀ g, D g → D' g) : Rt w D' v t := h.mono (fun g hg => ⟨hd g hg, rfl⟩)

/-- a row whose cells are this data is this slice -/
theorem owns_rt {l : List (List T)} {ty z : Nat} {v : Value} {xs : List Value} {D' : Nat → Prop} (h1 : ∀ e ∈ l, e.length = z) (h2 : w.ownsRow B ty z v l.length xs) (h3 : ∀ (j : Nat) y, l.flatten[j]? = some y → ∃ c, xs[j]? = some c ∧ y.leaf = true ∧ Rt w D' c y)
    (hm : ∀ g, Value.blk v = some g → D' g) : Rt w D' v (.sl l) := by
  have hx := h2
  rcases h2.2 with ⟨h4, h5⟩ | ⟨g, cap, cur, hv, hb2, hg2, rest⟩
  · obtain rfl : l = [] := List.length_eq_zero_iff.1 h5
    rw [h4]
    exact .sl0 _ _ (fun _ => rfl)
  · rw [hv] at hx hm ⊢
    refine .sl g 0 _ cap z l (fun j => xs.getD j undef) rfl rest.1 (hm g rfl) h1 (fun j hj => ?_) (fun j t ht => ?_) (fun j t ht => ?_)
    · rw [Nat.zero_add, hx.cellAt j hj]
      have : j < xs.length := by rw [hx.1]; exact hj
      simp [this]
    · obtain ⟨c, _, hl, _⟩ := h3 j t ht
      exact hl
    · obtain ⟨c, hc, _, hr⟩ := h3 j t ht
      rw [show xs.getD j undef = c by simp [hc]]
      exact hr
theorem row_rt {l : List (List T)} {ty z : Nat} (h : Rel Hy X B St w0 Dp s ι a w) {id : Nat} (hk : (s.o id).k = .row ty z l) {D' : Nat → Prop} (hd : ∀ g, Sd B St s.o ι w g → D' g) (hm : ∀ g, mb s.o ι id = some g → D' g) : Rt w D' (ι id) (.sl l) := by
  have ho := h.ob id
  rw [hk] at ho
  obtain ⟨h1, xs, h2, h3⟩ := ho
  refine owns_rt h1 h2 (fun j y hy => ?_) (fun g hg => hm g (by unfold mb; rw [hk]; exact hg))
  obtain ⟨c, hc, hl, hr⟩ := h3 j y hy
  exact ⟨c, hc, hl, hr.wide hd⟩

theorem frz0_ok (h : Rel Hy X B St w0 Dp s ι a w) {v : Value} {x : A} (hx : Ra w (Sd B St s.o ι w) s.o ι v x) {K : T → Ups → Prop} (hk : frz0 s.o x K) : ∃ t up, UpOk w B St s ι up ∧ Fz w B St s ι up v t ∧ (x.leaf = true → t.leaf = true) ∧ K t up := by
  unfold frz0 at hk
  split at hk
  · exact ⟨_, _, .nil, fun D' hd _ => hx.dat.wide hd, fun h => h, hk⟩
  · rw [hx.nil_get]
    exact ⟨_, _, .nil, fun D' hd _ => .sl0 _ _ (fun _ => rfl), fun _ => rfl, hk⟩
  · rename_i id g
    obtain ⟨hg, hk⟩ := hk
    have hv := hx.row_get hg
    split at hk
    · rename_i ty z l hkk
      refine ⟨_, _, fun p hp => ?_, fun D' hd hm => ?_, fun _ => rfl, hk⟩
      · obtain rfl := List.mem_singleton.1 hp
        exact ⟨l, by rw [hg], fun D' hd hm => row_rt h hkk hd (hm _ List.mem_cons_self)⟩
      · rw [hv]
        exact row_rt h hkk hd (hm _ List.mem_cons_self)
    · rename_i l hkk
      refine ⟨_, _, .nil, fun D' hd _ => ?_, fun _ => rfl, hk⟩
      have ho := h.ob id
      rw [hkk] at ho
      rw [hv]
      exact Rt.wide ho hd
    · exact hk.elim
  · exact hk.elim

theorem frzC0_ok (h : Rel Hy X B St w0 Dp s ι a w) : ∀ (l : List A) (c : Nat → Value) {K : List T → Ups → Prop}, (∀ (j : Nat) x, l[j]? = some x → Ra w (Sd B St s.o ι w) s.o ι (c j) x) → frzC0 s.o l K →
    ∃ ts up, UpOk w B St s ι up ∧ ts.length = l.length ∧ (∀ (j : Nat) t, ts[j]? = some t → t.leaf = true ∧ Fz w B St s ι up (c j) t) ∧ K ts up
  | [], c, K, _, hk => ⟨[], [], .nil, rfl, fun j t ht => (by simp at ht), hk⟩
  | x :: l, c, K, hc, hk => by
    obtain ⟨hl, hk⟩ := hk
    obtain ⟨t, i, f1, f2, f3, hk⟩ := frz0_ok h (hc 0 x rfl) hk
    obtain ⟨ts, is, g1, g2, g3, hk⟩ := frzC0_ok h l (fun j => c (j + 1)) (fun j x hx => hc (j + 1) x (by simpa using hx)) hk
    refine ⟨t :: ts, i ++ is, f1.app g1, by simp [g2], fun j t' ht => ?_, hk⟩
    cases j with
    | zero =>
      simp only [List.getElem?_cons_zero, Option.some.injEq] at ht
      subst ht
      exact ⟨f3 hl, f2.left⟩
    | succ j =>
      simp only [List.getElem?_cons_succ] at ht
      obtain ⟨h1, h2⟩ := g3 j t' ht
      exact ⟨h1, h2.right⟩

theorem frzE_ok (h : Rel Hy X B St w0 Dp s ι a w) {z : Nat} : ∀ (l : List (List A)) (c : Nat → Value) {K : List (List T) → Ups → Prop}, (∀ e ∈ l, e.length = z) → (∀ (j : Nat) x, l.flatten[j]? = some x → Ra w (Sd B St s.o ι w) s.o ι (c j) x) → frzE s.o l K →
    ∃ m up, UpOk w B St s ι up ∧ m.length = l.length ∧ (∀ e ∈ m, e.length = z) ∧ (∀ (j : Nat) t, m.flatten[j]? = some t → t.leaf = true ∧ Fz w B St s ι up (c j) t) ∧ K m up
  | [], c, K, _, _, hk => ⟨[], [], .nil, rfl, fun _ h => (by cases h), fun j t ht => (by simp at ht), hk⟩
  | e :: l, c, K, hz, hc, hk => by
    have he := hz e List.mem_cons_self
    obtain ⟨t, i, f1, f2, f3, hk⟩ := frzC0_ok h e c (fun j x hx => hc j x (by rw [List.flatten_cons, List.getElem?_append_left (List.getElem?_eq_some_iff.1 hx).1]; exact hx)) hk
    obtain ⟨ts, is, g1, g2, g3, g4, hk⟩ := frzE_ok h (z := z) l (fun j => c (e.length + j)) (fun x hx => hz x (List.mem_cons_of_mem _ hx)) (fun j x hx => hc (e.length + j) x (by rw [List.flatten_cons, List.getElem?_append_right (by omega), Nat.add_sub_cancel_left]; exact hx)) hk
    refine ⟨t :: ts, i ++ is, f1.app g1, by simp [g2], fun x hx => ?_, fun j t' ht => ?_, hk⟩
    · rcases List.mem_cons.1 hx with rfl | hx
      · rw [f2, he]
      · exact g3 x hx
    · rw [List.flatten_cons] at ht
      by_cases hj : j < t.length
      · rw [List.getElem?_append_left hj] at ht
        obtain ⟨h1, h2⟩ := f3 j t' ht
        exact ⟨h1, h2.left⟩
      · rw [List.getElem?_append_right (by omega)] at ht
        obtain ⟨h1, h2⟩ := g4 _ t' ht
        rw [show e.length + (j - t.length) = j by omega] at h2
        exact ⟨h1, h2.right⟩

theorem frz1_ok (h : Rel Hy X B St w0 Dp s ι a w) {v : Value} {x : A} (hx : Ra w (Sd B St s.o ι w) s.o ι v x) {K : T → Ups → Prop} (hk : frz1 s.o x K) : ∃ t up, UpOk w B St s ι up ∧ Fz w B St s ι up v t ∧ (x.leaf = true → t.leaf = true) ∧ K t up := by
  unfold frz1 at hk
  split at hk
  · exact ⟨_, _, .nil, fun D' hd _ => hx.dat.wide hd, fun h => h, hk⟩
  · rw [hx.nil_get]
    exact ⟨_, _, .nil, fun D' hd _ => .sl0 _ _ (fun _ => rfl), fun _ => rfl, hk⟩
  · rename_i id g
    obtain ⟨hg, hk⟩ := hk
    have hv := hx.row_get hg
    split at hk
    · rename_i ty z l hkk
      refine ⟨_, _, fun p hp => ?_, fun D' hd hm => ?_, fun _ => rfl, hk⟩
      · obtain rfl := List.mem_singleton.1 hp
        exact ⟨l, by rw [hg], fun D' hd hm => row_rt h hkk hd (hm _ List.mem_cons_self)⟩
      · rw [hv]
        exact row_rt h hkk hd (hm _ List.mem_cons_self)
    · rename_i l hkk
      refine ⟨_, _, .nil, fun D' hd _ => ?_, fun _ => rfl, hk⟩
      have ho := h.ob id
      rw [hkk] at ho
      rw [hv]
      exact Rt.wide ho hd
    · rename_i ty z l hkk
      have ho := h.ob id
      rw [hkk] at ho
      obtain ⟨h1, xs, h2, h3⟩ := ho
      obtain ⟨m, up, g1, g2, g3, g4, hk⟩ := frzE_ok h l (fun j => xs.getD j undef) h1 (fun j x hx => by
        obtain ⟨c, hc, _, hr⟩ := h3 j x hx
        rw [show xs.getD j undef = c by simp [hc]]
        exact hr) hk
      have key : ∀ D' : Nat → Prop, (∀ g, Sd B St s.o ι w g → D' g) → (∀ q ∈ up ++ [(id, (⟨g, .ro m⟩ : O))], ∀ g, mb s.o ι q.1 = some g → D' g) → Rt w D' (ι id) (.sl m) := fun D' hd hq => by
        refine owns_rt (B := B) (ty := ty) (z := z) (xs := xs) g3 (by rw [g2]; exact h2) (fun j y hy => ?_) (fun b hb => hq _ (List.mem_append_right _ List.mem_cons_self) b (by unfold mb; rw [hkk]; exact hb))
        obtain ⟨hl, hf⟩ := g4 j y hy
        have hj : j < xs.length := by
          have := (List.getElem?_eq_some_iff.1 hy).1
          rw [flat_size g3, g2] at this
          rw [h2.1]; exact this
        refine ⟨xs[j], List.getElem?_eq_getElem hj, hl, ?_⟩
        have := hf D' hd (fun q hqm => hq q (List.mem_append_left _ hqm))
        rwa [show xs.getD j undef = xs[j] by simp [hj]] at this
      refine ⟨_, _, fun p hp => ?_, fun D' hd hq => by rw [hv]; exact key D' hd hq, fun _ => rfl, hk⟩
      rcases List.mem_append.1 hp with hp | hp
      · obtain ⟨m', q1, q2⟩ := g1 p hp
        exact ⟨m', q1, fun D' hd hq => q2 D' hd (fun q hqm => hq q (List.mem_append_left _ hqm))⟩
      · obtain rfl := List.mem_singleton.1 hp
        exact ⟨m, by rw [hg], key⟩
    · exact hk.elim
  · exact hk.elim

theorem frzC_ok (h : Rel Hy X B St w0 Dp s ι a w) : ∀ (l : List A) (c : Nat → Value) {K : List T → Ups → Prop}, (∀ (j : Nat) x, l[j]? = some x → Ra w (Sd B St s.o ι w) s.o ι (c j) x) → frzC s.o l K →
    ∃ ts up, UpOk w B St s ι up ∧ ts.length = l.length ∧ (∀ (j : Nat) t, ts[j]? = some t → t.leaf = true ∧ Fz w B St s ι up (c j) t) ∧ K ts up
  | [], c, K, _, hk => ⟨[], [], .nil, rfl, fun j t ht => (by simp at ht), hk⟩
  | x :: l, c, K, hc, hk => by
    obtain ⟨hl, hk⟩ := hk
    obtain ⟨t, i, f1, f2, f3, hk⟩ := frz1_ok h (hc 0 x rfl) hk
    obtain ⟨ts, is, g1, g2, g3, hk⟩ := frzC_ok h l (fun j => c (j + 1)) (fun j x hx => hc (j + 1) x (by simpa using hx)) hk
    refine ⟨t :: ts, i ++ is, f1.app g1, by simp [g2], fun j t' ht => ?_, hk⟩
    cases j with
    | zero =>
      simp only [List.getElem?_cons_zero, Option.some.injEq] at ht
      subst ht
      exact ⟨f3 hl, f2.left⟩
    | succ j =>
      simp only [List.getElem?_cons_succ] at ht
      obtain ⟨h1, h2⟩ := g3 j t' ht
      exact ⟨h1, h2.right⟩

theorem frz_ok (h : Rel Hy X B St w0 Dp s ι a w) {v : Value} {x : A} (hx : Ra w (Sd B St s.o ι w) s.o ι v x) {K : T → Ups → Prop} (hk : frz s.o x K) : ∃ t up, UpOk w B St s ι up ∧ Fz w B St s ι up v t ∧ K t up := by
  unfold frz at hk
  split at hk
  · rename_i l
    cases hx with
    | ag cs l c hz hc hl hr =>
    obtain ⟨ts, up, g1, g2, g3, hk⟩ := frzC_ok h l c hr hk
    refine ⟨_, _, g1, fun D' hd hm => ?_, hk⟩
    exact .ag cs ts c (by rw [hz, g2]) (fun j hj => hc j (by omega)) (fun j t ht => (g3 j t ht).1) (fun j t ht => (g3 j t ht).2 D' hd hm)
  · exact ⟨_, _, .nil, fun D' hd _ => hx.dat.wide hd, hk⟩
  · rw [hx.nil_get]
    exact ⟨_, _, .nil, fun D' hd _ => .sl0 _ _ (fun _ => rfl), hk⟩
  · obtain ⟨t, up, h1, h2, _, h3⟩ := frz1_ok h hx hk
    exact ⟨t, up, h1, h2, h3⟩
  · exact hk.elim

theorem frzL_ok (h : Rel Hy X B St w0 Dp s ι a w) : ∀ (l : List A) (c : Nat → Value) {K : List T → Ups → Prop}, (∀ (j : Nat) x, l[j]? = some x → Ra w (Sd B St s.o ι w) s.o ι (c j) x) → frzL s.o l K →
    ∃ ts up, UpOk w B St s ι up ∧ ts.length = l.length ∧ (∀ (j : Nat) t, ts[j]? = some t → Fz w B St s ι up (c j) t) ∧ K ts up
  | [], c, K, _, hk => ⟨[], [], .nil, rfl, fun j t ht => (by simp at ht), hk⟩
  | x :: l, c, K, hc, hk => by
    obtain ⟨t, i, f1, f2, hk⟩ := frz_ok h (hc 0 x rfl) hk
    obtain ⟨ts, is, g1, g2, g3, hk⟩ := frzL_ok h l (fun j => c (j + 1)) (fun j x hx => hc (j + 1) x (by simpa using hx)) hk
    refine ⟨t :: ts, i ++ is, f1.app g1, by simp [g2], fun j t' ht => ?_, hk⟩
    cases j with
    | zero =>
      simp only [List.getElem?_cons_zero, Option.some.injEq] at ht
      subst ht
      exact f2.left
    | succ j =>
      simp only [List.getElem?_cons_succ] at ht
      exact (g3 j t' ht).right

theorem put_none (s : S) (y : A) : s.put none y = s := rfl
theorem act_put_none (a : Act) (v : Value) : a.put none v = a := rfl
theorem frz_t (s : S) (up : Ups) : (s.frz up).t = s.t ∧ (s.frz up).n = s.n := by
  induction up generalizing s with
  | nil => exact ⟨rfl, rfl⟩
  | cons p up ih => exact ih (s.ob p.1 p.2)
theorem frz_no (up : Ups) (id : Nat) : ∀ s : S, id ∉ up.map (·.1) → (s.frz up).o id = s.o id := by
  induction up with
  | nil => intro s _; rfl
  | cons p up ih =>
    intro s h
    rw [List.map_cons, List.mem_cons, not_or] at h
    show ((s.ob p.1 p.2).frz up).o id = _
    rw [ih _ h.2]
    exact if_neg h.1
theorem frz_in (up : Ups) (id : Nat) : ∀ s : S, id ∈ up.map (·.1) → ∃ x, (id, x) ∈ up ∧ (s.frz up).o id = x := by
  induction up with
  | nil => intro s h; cases h
  | cons p up ih =>
    intro s h
    show ∃ x, (id, x) ∈ p :: up ∧ ((s.ob p.1 p.2).frz up).o id = x
    by_cases hin : id ∈ up.map (·.1)
    · obtain ⟨x, h1, h2⟩ := ih (s.ob p.1 p.2) hin
      exact ⟨x, List.mem_cons_of_mem _ h1, h2⟩
    · rw [List.map_cons] at h
      have e : id = p.1 := (List.mem_cons.1 h).resolve_right hin
      refine ⟨p.2, ?_, ?_⟩
      · rw [e]; exact List.mem_cons_self
      · rw [frz_no up id _ hin]
        exact if_pos e

/-- rows are frozen -/
theorem Rel.frz (h : Rel Hy X B St w0 Dp s ι a w) {up : Ups} (hu : UpOk w B St s ι up) : Rel Hy X B St w0 Dp (s.frz up) ι a w ∧ (∀ g, Sd B St s.o ι w g → Sd B St (s.frz up).o ι w g) ∧ ∀ p ∈ up, ∀ g, mb s.o ι p.1 = some g → Sd B St (s.frz up).o ι w g := by
  have get : ∀ id, (id ∉ up.map (·.1) ∧ (s.frz up).o id = s.o id) ∨ (id ∈ up.map (·.1) ∧ ∃ m, (s.frz up).o id = ⟨(s.o id).gen, .ro m⟩ ∧ ∀ D' : Nat → Prop, (∀ g, Sd B St s.o ι w g → D' g) → (∀ q ∈ up, ∀ g, mb s.o ι q.1 = some g → D' g) → Rt w D' (ι id) (.sl m)) := fun id => by
    by_cases hin : id ∈ up.map (·.1)
    · obtain ⟨x, h1, h2⟩ := frz_in up id s hin
      obtain ⟨m, h3, h4⟩ := hu _ h1
      exact .inr ⟨hin, m, by rw [h2]; exact h3, h4⟩
    · exact .inl ⟨hin, frz_no up id s hin⟩
  have hmb : ∀ i b, mb (s.frz up).o ι i = some b → mb s.o ι i = some b ∧ i ∉ up.map (·.1) := fun i b e => by
    rcases get i with ⟨h1, h2⟩ | ⟨_, m, h2, _⟩
    · unfold mb at e ⊢
      rw [h2] at e
      exact ⟨e, h1⟩
    · unfold mb at e
      rw [h2] at e
      cases e
  have hsd : ∀ g, Sd B St s.o ι w g → Sd B St (s.frz up).o ι w g := fun g hg => ⟨hg.1, hg.2.1, fun i e => hg.2.2 i (hmb i g e).1⟩
  have hrow : ∀ p ∈ up, ∀ g, mb s.o ι p.1 = some g → Sd B St (s.frz up).o ι w g := fun p hp g hg => by
    refine ⟨.inr (h.mbB hg).1, (h.mbB hg).2, fun i e => ?_⟩
    obtain ⟨e1, e2⟩ := hmb i g e
    have := h.inj _ _ _ e1 hg
    subst this
    exact e2 (List.mem_map.2 ⟨p, hp, rfl⟩)
  have hk : ∀ g, Sd B St s.o ι w g → Sd B St (s.frz up).o ι w g ∧ w.heap[g]? = w.heap[g]? := fun g hg => ⟨hsd g hg, rfl⟩
  have hgs : ∀ i, (s.o i).gen ≤ ((s.frz up).o i).gen ∧ ((s.o i).gen = ((s.frz up).o i).gen → ι i = ι i) := fun i => by
    refine ⟨?_, fun _ => rfl⟩
    rcases get i with ⟨_, h2⟩ | ⟨_, m, h2, _⟩
    · rw [h2]; exact Nat.le_refl _
    · rw [h2]; exact Nat.le_refl _
  have mT : ∀ (v : Value) (t : T), Rt w (Sd B St s.o ι w) v t → Rt w (Sd B St (s.frz up).o ι w) v t := fun v t ht => ht.mono hk
  have mA : ∀ (v : Value) (z : A), Ra w (Sd B St s.o ι w) s.o ι v z → Ra w (Sd B St (s.frz up).o ι w) (s.frz up).o ι v z := fun v z hz => hz.mono hk hgs
  refine ⟨⟨h.below, h.hB, fun id => ?_, fun i j b e1 e2 => h.inj _ _ _ (hmb i b e1).1 (hmb j b e2).1, fun t v e => ?_, h.dv, h.sz.trans (frz_t s up).2.symm, h.stB, h.hy, (by obtain ⟨N, L, _, n2, _⟩ := h.xd; exact n2 _ _ _ _ _ _ _ _ mT mA (Nat.le_refl _) (fun _ _ _ _ e => e) h.x), h.xd⟩, hsd, hrow⟩
  · rcases get id with ⟨_, h2⟩ | ⟨_, m, h2, h3⟩
    · rw [h2]
      have hob := h.ob id
      cases hkk : (s.o id).k with
      | none => exact trivial
      | ro l => rw [hkk] at hob; exact mT _ _ hob
      | cells ty l =>
        rw [hkk] at hob
        obtain ⟨blk, cs, h1, h2, h3, h4, h5⟩ := hob
        refine ⟨blk, cs, h1, h2, h3, h4, fun j y hy => ?_⟩
        obtain ⟨c, hc, hl, hr⟩ := h5 j y hy
        exact ⟨c, hc, hl, mA _ _ hr⟩
      | row ty z l =>
        rw [hkk] at hob
        obtain ⟨h1, xs, h2, h3⟩ := hob
        refine ⟨h1, xs, h2, fun j y hy => ?_⟩
        obtain ⟨c, hc, hl, hr⟩ := h3 j y hy
        exact ⟨c, hc, hl, mT _ _ hr⟩
      | rowA ty z l =>
        rw [hkk] at hob
        obtain ⟨h1, xs, h2, h3⟩ := hob
        refine ⟨h1, xs, h2, fun j y hy => ?_⟩
        obtain ⟨c, hc, hl, hr⟩ := h3 j y hy
        exact ⟨c, hc, hl, mA _ _ hr⟩
      | map ks l =>
        rw [hkk] at hob
        obtain ⟨blk, es, ck, h1, h2, h3, h4, h5, h6, h7⟩ := hob
        refine ⟨blk, es, ck, h1, h2, ?_, h4, h5, h6, fun j y hy => ?_⟩
        · exact h3
        · obtain ⟨c, hc, hk2, hl, hr⟩ := h7 j y hy
          exact ⟨c, hc, hk2, hl, mA _ _ hr⟩
    · rw [h2]
      exact h3 _ hsd hrow
  · rw [(frz_t s up).1]
    exact mA _ _ (h.tm t v e)

theorem Fz.rt {up : Ups} {v : Value} {t : T} (h : Rel Hy X B St w0 Dp s ι a w) (hu : UpOk w B St s ι up) (hf : Fz w B St s ι up v t) : Rt w (Sd B St (s.frz up).o ι w) v t := by
  obtain ⟨_, k2, k3⟩ := h.frz hu
  exact hf _ k2 k3

theorem flat_rt {w w' : World} {D D' : Nat → Prop} {v : Value} {t : T} (hf : t.flat = true) (h : Rt w D v t) : Rt w' D' v t := by
  cases h <;> first | exact .b _ | exact .i _ _ | exact .s _ | cases hf

theorem res_ok {w : World} {D : Nat → Prop} {o : Nat → O} {v : Value} {r : List T} (h : Rres w D v r) : Ra w D o ι v (resA r) := by
  unfold Rres at h
  unfold resA
  split at h
  · exact .t h
  · obtain ⟨cs, c, rfl, h1, h2, h3⟩ := h
    refine .tup cs _ c (by simpa using h1) (fun j hj => h2 j (by simpa using hj)) (fun j x hx => ?_)
    rw [List.getElem?_map] at hx
    obtain ⟨t, ht, rfl⟩ := Option.map_eq_some_iff.1 hx
    exact .t (h3 j t ht)
theorem Rres.imp {w w' : World} {D D' : Nat → Prop} {v : Value} {r : List T} (h : Rres w D v r) (hi : ∀ v t, t ∈ r → Rt w D v t → Rt w' D' v t) : Rres w' D' v r := by
  unfold Rres at h ⊢
  split at h
  · exact hi _ _ List.mem_cons_self h
  · obtain ⟨cs, c, e, h1, h2, h3⟩ := h
    exact ⟨cs, c, e, h1, h2, fun j x hx => hi _ _ (List.mem_of_getElem? hx) (h3 j x hx)⟩

/-- these values are these -/
def Alike (w : World) (D : Nat → Prop) (o : Nat → O) (ι : Nat → Value) (cs : Array Value) (l : List A) : Prop := cs.size = l.length ∧ ∀ (j : Nat) x, l[j]? = some x → ∃ c, cs[j]? = some c ∧ Ra w D o ι c x
theorem Alike.app {D : Nat → Prop} {o : Nat → O} {cs ds : Array Value} {l m : List A} (h : Alike w D o ι cs l) (k : Alike w D o ι ds m) : Alike w D o ι (cs ++ ds) (l ++ m) := by
  refine ⟨by simp [h.1, k.1], fun j x hx => ?_⟩
  by_cases hj : j < l.length
  · rw [List.getElem?_append_left hj] at hx
    rw [Array.getElem?_append_left (by rw [h.1]; exact hj)]
    exact h.2 j x hx
  · rw [List.getElem?_append_right (Nat.le_of_not_lt hj)] at hx
    rw [Array.getElem?_append_right (by rw [h.1]; exact Nat.le_of_not_lt hj), h.1]
    exact k.2 _ x hx
theorem Rel.alike (h : Rel Hy X B St w0 Dp s ι a w) (args : Array Operand) : Alike w (Sd B St s.o ι w) s.o ι (args.map a.eval) (args.toList.map s.ev) := by
  refine ⟨by simp, fun j x hx => ?_⟩
  rw [List.getElem?_map] at hx
  obtain ⟨y, hy, rfl⟩ := Option.map_eq_some_iff.1 hx
  have hy2 : args[j]? = some y := by simpa using hy
  exact ⟨_, by rw [Array.getElem?_map, hy2]; rfl, h.ev y⟩
/-- a call -/
theorem call_okL (h : Rel Hy X B St w0 Dp s ι a w) {Q : Exit → Act → World → Prop} {dst : Option Nat} {f : FuncId} {L : List A} {cargs : Array Value} {K : S → Prop} {K' : Act → World → Prop}
    (hs : ∀ s ι a w, Rel Hy X B St w0 Dp s ι a w → K s → K' a w) (hsz : cargs.size = L.length) (hL : ∀ (j : Nat) x, L[j]? = some x → Ra w (Sd B St s.o ι w) s.o ι (cargs.getD j undef) x)
    (hk : frzL s.o L fun ts ids => ∃ r, Ct P Hy f ts r ∧ K ((if r.all T.flat then s else s.frz ids).put dst (resA r))) :
    (∃ fn, P.funcs[f]? = some fn ∧ fn.name ≠ "runtime.NumGoroutine" ∧ fn.body ≠ none) ∧
    Calls P f cargs w fun | .returned v, w'' => K' (a.put dst v) w'' | .panicked chain, w'' => Q (.panic chain) a w'' | .outgrown, _ => LetsOut Q := by
  obtain ⟨ts, ids, g1, g2, g3, r, hct, hk⟩ := frzL_ok h L (fun j => cargs.getD j undef) hL hk
  obtain ⟨k1, k2, k3⟩ := h.frz g1
  refine ⟨hct.fn, (hct.go w _ (Sd B St (s.frz ids).o ι w) (fun g hg => hg.2.1) (fun w' hw => h.hy w' (h.below.trans (hw.mono h.hB))) (by rw [hsz, g2]) (fun j v t hv ht => ?_)).mono ?_⟩
  · have : cargs.getD j undef = v := by simp [Array.getD_eq_getD_getElem?, hv]
    rw [← this]
    exact (g3 j t ht).rt h g1
  · rintro e w' ⟨v, rfl, hr, hb⟩
    by_cases hfl : r.all T.flat = true
    · rw [if_pos hfl] at hk
      refine hs _ ι _ _ (h.keep hb dst (resA r) v (fun _ => ?_)) hk
      exact res_ok (hr.imp (fun v t ht => flat_rt (List.all_eq_true.1 hfl t ht)))
    · rw [if_neg hfl] at hk
      refine hs _ ι _ _ (k1.keep hb dst (resA r) v (fun _ => ?_)) hk
      refine res_ok (hr.imp (fun v t _ ht => ht.wide (fun g hg => ?_)))
      rcases hg with hg | hg
      · exact ⟨hg.1, Nat.lt_of_lt_of_le hg.2.1 hb.size, hg.2.2⟩
      · exact ⟨.inr (Nat.le_trans h.hB hg.1), hg.2, fun i e => absurd (k1.mbB e).2 (Nat.not_lt.2 hg.1)⟩

theorem call_ok (h : Rel Hy X B St w0 Dp s ι a w) {Q : Exit → Act → World → Prop} {dst : Option Nat} {f : FuncId} {args : List Operand} {K : S → Prop} {K' : Act → World → Prop}
    (hs : ∀ s ι a w, Rel Hy X B St w0 Dp s ι a w → K s → K' a w)
    (hk : frzL s.o (args.map s.ev) fun ts ids => ∃ r, Ct P Hy f ts r ∧ K ((if r.all T.flat then s else s.frz ids).put dst (resA r))) :
    (∃ fn, P.funcs[f]? = some fn ∧ fn.name ≠ "runtime.NumGoroutine" ∧ fn.body ≠ none) ∧
    Calls P f (args.map a.eval).toArray w fun | .returned v, w'' => K' (a.put dst v) w'' | .panicked chain, w'' => Q (.panic chain) a w'' | .outgrown, _ => LetsOut Q :=
  call_okL h hs (by simp) (fun j x hx => by
    rw [List.getElem?_map] at hx
    obtain ⟨x0, h0, rfl⟩ := Option.map_eq_some_iff.1 hx
    rw [show (args.map a.eval).toArray.getD j undef = a.eval x0 by simp [Array.getD_eq_getD_getElem?, h0]]
    exact h.ev x0) hk

/-- a new object of cells -/
theorem new_ok (h : Rel Hy X B St w0 Dp s ι a w) (id : Nat) (ty : TypeId) (l : List A) (cs : Array Value) (hz : cs.size = l.length) (hl : l.all A.leaf = true)
    (hc : ∀ (j : Nat) y, l[j]? = some y → ∃ c, cs[j]? = some c ∧ Ra w (Sd B St s.o ι w) s.o ι c y) (d : Option Nat) :
    ∃ ι', Rel Hy X B St w0 Dp ((s.ob id ⟨(s.o id).gen + 1, .cells ty l⟩).put d (.ptr id ((s.o id).gen + 1) 0)) ι' (a.put d (.pointer (some ⟨w.heap.size, 0, none⟩))) (w.alloc (.cells cs ty)) := by
  refine ⟨fun i => if i = id then .pointer (some ⟨w.heap.size, 0, none⟩) else ι i, Rel.next h id _ (.pointer (some ⟨w.heap.size, 0, none⟩)) d _ _ ?_ (fun i hi => if_neg hi) (if_pos rfl) (Nat.le_succ _) (fun e => absurd e (Nat.ne_of_lt (Nat.lt_succ_self _))) (fun b hb _ => Below.heap_alloc _ _ _ hb) (fun b e => ?_) (fun mT mA => ?_) (fun mT mA _ => ?_)⟩
  · exact (Below.refl B w).alloc h.hB _
  · unfold mb at e
    rw [show (s.ob id ⟨(s.o id).gen + 1, .cells ty l⟩).o id = ⟨(s.o id).gen + 1, .cells ty l⟩ from if_pos rfl] at e
    simp only [if_true, Value.blk, Option.some.injEq] at e
    exact .inr (Nat.le_of_eq e)
  · refine ⟨w.heap.size, cs, rfl, h.hB, heap_alloc_new w _, hz, fun j y hy => ?_⟩
    obtain ⟨c, h1, h2⟩ := hc j y hy
    exact ⟨c, h1, List.all_eq_true.1 hl y (List.mem_of_getElem? hy), mA _ _ h2⟩
  · refine .ptr ?_ (fun _ => ⟨w.heap.size, if_pos rfl, rfl⟩) rfl
    rw [show (s.ob id ⟨(s.o id).gen + 1, .cells ty l⟩).o id = ⟨(s.o id).gen + 1, .cells ty l⟩ from if_pos rfl]
    exact Nat.le_refl _

theorem cells_of {D : Nat → Prop} {o : Nat → O} {v : Value} {x : A} (h : Ra w D o ι v x) : v.cells.size = (cellsA x).length ∨ (cellsA x).all A.leaf = false := by
  cases h with
  | t h => cases h <;> simp_all [cellsA, Value.cells]
  | ptr _ _ h => cases v <;> simp_all [cellsA, Value.cells, Value.oneCell']
  | row _ _ h => cases v <;> simp_all [cellsA, Value.cells, Value.oneCell']
  | ag cs l c hz => left; simpa [cellsA, Value.cells] using hz
  | nilS => left; simp [cellsA, Value.cells]
  | fn f cs ds l m c d hz hc h => left; simp [cellsA, Value.cells]
  | ifc => left; simp [cellsA, Value.cells]
  | rp => right; simp [cellsA, A.leaf]
  | tup => right; simp [cellsA, A.leaf]
  | junk => right; simp [cellsA, A.leaf]

theorem cells_get {D : Nat → Prop} {o : Nat → O} {v : Value} {x : A} (h : Ra w D o ι v x) (hl : (cellsA x).all A.leaf = true) : v.cells.size = (cellsA x).length ∧ ∀ (j : Nat) y, (cellsA x)[j]? = some y → ∃ c, v.cells[j]? = some c ∧ Ra w D o ι c y := by
  have one : ∀ {v : Value} {x : A}, v.cells = #[v] → cellsA x = [x] → Ra w D o ι v x → v.cells.size = (cellsA x).length ∧ ∀ (j : Nat) y, (cellsA x)[j]? = some y → ∃ c, v.cells[j]? = some c ∧ Ra w D o ι c y := fun {v x} e1 e2 hr => by
    rw [e1, e2]
    refine ⟨rfl, fun j y hy => ?_⟩
    cases j with
    | zero => cases hy; exact ⟨v, rfl, hr⟩
    | succ j => simp at hy
  have vone : ∀ {v : Value}, v.oneCell' = true → v.cells = #[v] := fun {v} hv => by cases v <;> first | rfl | cases hv
  cases h with
  | t h =>
    cases h with
    | ag cs l c hz hc hl2 hr =>
      refine ⟨by simpa [cellsA, Value.cells] using hz, fun j y hy => ?_⟩
      simp only [cellsA, List.getElem?_map] at hy
      obtain ⟨t, ht, rfl⟩ := Option.map_eq_some_iff.1 hy
      exact ⟨c j, hc j (List.getElem?_eq_some_iff.1 ht).1, .t (hr j t ht)⟩
    | b x => exact one rfl rfl (.t (.b x))
    | i k n => exact one rfl rfl (.t (.i k n))
    | s x => exact one rfl rfl (.t (.s x))
    | sl0 p c hp => exact one rfl rfl (.t (.sl0 p c hp))
    | sl g o n cap z l c hn hq hD hz hc hl2 hr => exact one rfl rfl (.t (.sl g o n cap z l c hn hq hD hz hc hl2 hr))
    | cp blk off l c hD hc hl2 hr => exact one rfl rfl (.t (.cp blk off l c hD hc hl2 hr))
    | ifc ty v x h => exact one rfl rfl (.t (.ifc ty v x h))
    | nif => exact one rfl rfl (.t .nif)
    | np => exact one rfl rfl (.t .np)
    | yl l => exact one rfl rfl (.t (.yl l))
  | ptr h1 h2 h3 => exact one (vone h3) rfl (.ptr h1 h2 h3)
  | row h1 h2 h3 => exact one (vone h3) rfl (.row h1 h2 h3)
  | ifc ty v x h => exact one rfl rfl (.ifc ty v x h)
  | ag cs l c hz hc hl2 hr => exact ⟨hz, fun j y hy => ⟨c j, hc j (List.getElem?_eq_some_iff.1 hy).1, hr j y hy⟩⟩
  | nilS => exact one rfl rfl .nilS
  | fn f cs ds l m c d hz hc h kz kc k => exact one rfl rfl (.fn f cs ds l m c d hz hc h kz kc k)
  | rp => simp [cellsA, A.leaf] at hl
  | tup => simp [cellsA, A.leaf] at hl
  | junk => simp [cellsA, A.leaf] at hl
end
end Go.Proofs.YtfflfmpkjcomgaaDoor
