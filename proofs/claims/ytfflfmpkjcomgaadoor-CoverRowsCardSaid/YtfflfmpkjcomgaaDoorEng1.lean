/- The engine, 1: data as trees, a state of trees and of the call's own objects, and when memory is such a state. -/
import Derived.WalkKit
import Derived.Below
import Derived.Laws.AppendOwn
import Derived.Laws.OwnMore
import Derived.Laws.MakeOwn
import Derived.Maps.Keyed
namespace Go.Proofs.YtfflfmpkjcomgaaDoor
open Go.RowKit

/-- data: a bool, an integer, a string, a struct's cells, a slice's elements (each its cells) -/
inductive T where
  | b (x : Bool)
  | i (k : IntKind) (n : Int)
  | s (x : ByteArray)
  | ag (l : List T)
  | sl (l : List (List T))
  | cp (l : List T)
  | ifc (ty : TypeId) (x : T)
  | nif
  | np
  | yl (l : Nat)

def T.leaf : T → Bool
  | .ag _ => false
  | _ => true

/-- what a temporary holds: data; a pointer to a cell of an own object; an own row; a pointer into one; a pointer to cells that stay as they are; a struct of such; a tuple -/
inductive A where
  | t (x : T)
  | ptr (id g off : Nat)
  | row (id g : Nat)
  | rp (id g z i off : Nat)
  | ag (l : List A)
  | tup (l : List A)
  | nilS
  | fn (f : FuncId) (fst caps : List A)
  | ifc (ty : TypeId) (x : A)
  | junk

def A.leaf : A → Bool
  | .t x => x.leaf
  | .ptr .. => true
  | .row .. => true
  | .nilS => true
  | .fn _ _ _ => true
  | .ifc _ _ => true
  | _ => false

def inR : IntKind → Int → Prop
  | .i8, n => -128 ≤ n ∧ n ≤ 127
  | .i16, n => -32768 ≤ n ∧ n ≤ 32767
  | .i32, n => -2147483648 ≤ n ∧ n ≤ 2147483647
  | .i64, n => -9223372036854775808 ≤ n ∧ n ≤ 9223372036854775807
  | .u8, n => 0 ≤ n ∧ n ≤ 255
  | .u16, n => 0 ≤ n ∧ n ≤ 65535
  | .u32, n => 0 ≤ n ∧ n ≤ 4294967295
  | .u64, n => 0 ≤ n ∧ n ≤ 18446744073709551615
/-- a map's keys: integers, strings, arrays of integers -/
inductive Ky where
  | i (k : IntKind) (n : Int)
  | s (x : ByteArray)
  | a (k : IntKind) (l : List Int)
  deriving DecidableEq
def Ky.v : Ky → Value
  | .i k n => .int k n
  | .s x => .string x
  | .a k l => .agg (l.map (Value.int k)).toArray
inductive KS where
  | int (q : IntKind)
  | str
  | arr (q : IntKind) (n : Nat)
def Ky.ok : KS → Ky → Prop
  | .int q, .i k n => k = q ∧ inR q n
  | .str, .s x => x.size ≤ 9223372036854775807
  | .arr q m, .a k l => k = q ∧ l.length = m ∧ ∀ n ∈ l, inR q n
  | _, _ => False
/-- own objects: none; cells; a row that may grow and be written; one that stays as it is -/
inductive OK where
  | none
  | cells (ty : TypeId) (l : List A)
  | row (ty : TypeId) (z : Nat) (l : List (List T))
  | rowA (ty : TypeId) (z : Nat) (l : List (List A))
  | ro (l : List (List T))
  | map (ks : KS) (l : List (Ky × A))

structure O where
  gen : Nat
  k : OK

structure S where
  n : Nat
  t : Nat → A
  o : Nat → O

def S.put (s : S) (d : Option Nat) (x : A) : S := match d with
  | some d => { s with t := fun j => if j = d then x else s.t j }
  | none => s
def S.ob (s : S) (id : Nat) (x : O) : S := { s with o := fun j => if j = id then x else s.o j }

/-- this value is this data, in blocks of these -/
inductive Rt (w : World) (D : Nat → Prop) : Value → T → Prop where
  | b (x : Bool) : Rt w D (.bool x) (.b x)
  | i (k : IntKind) (n : Int) : Rt w D (.int k n) (.i k n)
  | s (x : ByteArray) : Rt w D (.string x) (.s x)
  | ag (cs : Array Value) (l : List T) (c : Nat → Value) (hz : cs.size = l.length) (hc : ∀ j, j < l.length → cs[j]? = some (c j)) (hl : ∀ (j : Nat) t, l[j]? = some t → t.leaf = true)
      (h : ∀ (j : Nat) t, l[j]? = some t → Rt w D (c j) t) : Rt w D (.agg cs) (.ag l)
  | sl0 (a : Option Addr) (cap : Nat) (h : a = none → cap = 0) : Rt w D (.slice a 0 cap) (.sl [])
  | sl (g o n cap z : Nat) (l : List (List T)) (c : Nat → Value) (hn : n = l.length) (hq : n ≤ cap) (hD : D g) (hz : ∀ e ∈ l, e.length = z) (hc : ∀ j, j < l.length * z → w.cell? ⟨g, o + j, none⟩ = some (c j))
      (hl : ∀ (j : Nat) t, l.flatten[j]? = some t → t.leaf = true) (h : ∀ (j : Nat) t, l.flatten[j]? = some t → Rt w D (c j) t) : Rt w D (.slice (some ⟨g, o, none⟩) n cap) (.sl l)
  | cp (blk off : Nat) (l : List T) (c : Nat → Value) (hD : D blk) (hc : ∀ j, j < l.length → w.cell? ⟨blk, off + j, none⟩ = some (c j)) (hl : ∀ (j : Nat) t, l[j]? = some t → t.leaf = true)
      (h : ∀ (j : Nat) t, l[j]? = some t → Rt w D (c j) t) : Rt w D (.pointer (some ⟨blk, off, none⟩)) (.cp l)
  | ifc (ty : TypeId) (v : Value) (x : T) (h : Rt w D v x) : Rt w D (.iface ty v) (.ifc ty x)
  | nif : Rt w D .nilIface .nif
  | np : Rt w D (.pointer none) .np
  | yl (l : Nat) : Rt w D (.func (.yield l) #[] #[]) (.yl l)

theorem flat_size {α : Type} {z : Nat} : ∀ {l : List (List α)}, (∀ e ∈ l, e.length = z) → l.flatten.length = l.length * z
  | [], _ => by simp
  | e :: l, h => by
    rw [List.flatten_cons, List.length_append, h e List.mem_cons_self, flat_size (fun x hx => h x (List.mem_cons_of_mem _ hx)), List.length_cons, Nat.add_mul]
    omega

theorem flat_in {α : Type} {z : Nat} : ∀ {l : List (List α)} {i j : Nat} {e : List α} {t : α}, (∀ e ∈ l, e.length = z) → l[i]? = some e → e[j]? = some t → l.flatten[i * z + j]? = some t
  | [], i, j, e, t, _, h, _ => by simp at h
  | x :: l, 0, j, e, t, _, h, ht => by
    simp only [List.getElem?_cons_zero, Option.some.injEq] at h
    subst h
    rw [List.flatten_cons, Nat.zero_mul, Nat.zero_add, List.getElem?_append_left (List.getElem?_eq_some_iff.1 ht).1]
    exact ht
  | x :: l, i + 1, j, e, t, hz, h, ht => by
    have hx := hz x List.mem_cons_self
    rw [List.flatten_cons, List.getElem?_append_right (by rw [hx, Nat.add_mul]; omega), hx, show (i + 1) * z + j - z = i * z + j from by rw [Nat.add_mul]; omega]
    exact flat_in (fun y hy => hz y (List.mem_cons_of_mem _ hy)) (by simpa using h) ht

theorem Rt.mono {w w' : World} {D D' : Nat → Prop} (hk : ∀ g, D g → D' g ∧ w'.heap[g]? = w.heap[g]?) {v : Value} {t : T} (h : Rt w D v t) : Rt w' D' v t := by
  induction h with
  | b x => exact .b x
  | i k n => exact .i k n
  | s x => exact .s x
  | ag cs l c hz hc hl _ ih => exact .ag cs l c hz hc hl ih
  | sl0 a cap h => exact .sl0 a cap h
  | sl g o n cap z l c hn hq hD hz hc hl _ ih =>
    exact .sl g o n cap z l c hn hq (hk g hD).1 hz (fun j hj => (World.cell?_of_block (w := w) (hk g hD).2).trans (hc j hj)) hl ih
  | cp blk off l c hD hc hl _ ih => exact .cp blk off l c (hk _ hD).1 (fun j hj => (World.cell?_of_block (w := w) (hk blk hD).2).trans (hc j hj)) hl ih
  | ifc ty v x _ ih => exact .ifc ty v x ih
  | nif => exact .nif
  | np => exact .np
  | yl l => exact .yl l

/-- cells alone matter -/
theorem Rt.mono2 {w w' : World} {D D' : Nat → Prop} (hd : ∀ g, D g → D' g) (hk : ∀ p c, w.cell? p = some c → w'.cell? p = some c) {v : Value} {t : T} (h : Rt w D v t) : Rt w' D' v t := by
  induction h with
  | b x => exact .b x
  | i k n => exact .i k n
  | s x => exact .s x
  | ag cs l c hz hc hl _ ih => exact .ag cs l c hz hc hl ih
  | sl0 a cap h => exact .sl0 a cap h
  | sl g o n cap z l c hn hq hD hz hc hl _ ih => exact .sl g o n cap z l c hn hq (hd _ hD) hz (fun j hj => hk _ _ (hc j hj)) hl ih
  | cp blk off l c hD hc hl _ ih => exact .cp blk off l c (hd _ hD) (fun j hj => hk _ _ (hc j hj)) hl ih
  | ifc ty v x _ ih => exact .ifc ty v x ih
  | nif => exact .nif
  | np => exact .np
  | yl l => exact .yl l

theorem Rt.one {w : World} {D : Nat → Prop} {v : Value} {t : T} (h : Rt w D v t) (hl : t.leaf = true) : v.oneCell' = true := by
  cases h <;> first | rfl | cases hl

inductive Ra (w : World) (D : Nat → Prop) (o : Nat → O) (ι : Nat → Value) : Value → A → Prop where
  | t {v : Value} {x : T} (h : Rt w D v x) : Ra w D o ι v (.t x)
  | ptr {v : Value} {id g off : Nat} (hg : g ≤ (o id).gen) (h : g = (o id).gen → ∃ blk, ι id = .pointer (some ⟨blk, 0, none⟩) ∧ v = .pointer (some ⟨blk, off, none⟩)) (h1 : v.oneCell' = true) : Ra w D o ι v (.ptr id g off)
  | row {v : Value} {id g : Nat} (hg : g ≤ (o id).gen) (h : g = (o id).gen → v = ι id) (h1 : v.oneCell' = true) : Ra w D o ι v (.row id g)
  | rp {v : Value} {id g z i off : Nat} (hg : g ≤ (o id).gen) (h : g = (o id).gen → ∃ blk n cap, ι id = .slice (some ⟨blk, 0, none⟩) n cap ∧ v = .pointer (some ⟨blk, i * z + off, none⟩)) : Ra w D o ι v (.rp id g z i off)
  | ag (cs : Array Value) (l : List A) (c : Nat → Value) (hz : cs.size = l.length) (hc : ∀ j, j < l.length → cs[j]? = some (c j)) (hl : ∀ (j : Nat) x, l[j]? = some x → x.leaf = true)
      (h : ∀ (j : Nat) x, l[j]? = some x → Ra w D o ι (c j) x) : Ra w D o ι (.agg cs) (.ag l)
  | tup (cs : Array Value) (l : List A) (c : Nat → Value) (hz : cs.size = l.length) (hc : ∀ j, j < l.length → cs[j]? = some (c j))
      (h : ∀ (j : Nat) x, l[j]? = some x → Ra w D o ι (c j) x) : Ra w D o ι (.tuple cs) (.tup l)
  | nilS : Ra w D o ι (.slice none 0 0) .nilS
  | fn (f : FuncId) (cs ds : Array Value) (l m : List A) (c d : Nat → Value) (hz : cs.size = l.length) (hc : ∀ j, j < l.length → cs[j]? = some (c j)) (h : ∀ (j : Nat) x, l[j]? = some x → Ra w D o ι (c j) x)
      (kz : ds.size = m.length) (kc : ∀ j, j < m.length → ds[j]? = some (d j)) (k : ∀ (j : Nat) x, m[j]? = some x → Ra w D o ι (d j) x) : Ra w D o ι (.func (.func f) cs ds) (.fn f l m)
  | ifc (ty : TypeId) (v : Value) (x : A) (h : Ra w D o ι v x) : Ra w D o ι (.iface ty v) (.ifc ty x)
  | junk {v : Value} : Ra w D o ι v .junk

theorem Ra.mono {w w' : World} {D D' : Nat → Prop} {o o' : Nat → O} {ι ι' : Nat → Value} (hk : ∀ g, D g → D' g ∧ w'.heap[g]? = w.heap[g]?)
    (hg : ∀ id, (o id).gen ≤ (o' id).gen ∧ ((o id).gen = (o' id).gen → ι' id = ι id)) {v : Value} {x : A} (h : Ra w D o ι v x) : Ra w' D' o' ι' v x := by
  induction h with
  | t h => exact .t (h.mono hk)
  | @ptr v id g off h1 h2 h3 =>
    refine .ptr (Nat.le_trans h1 (hg id).1) (fun e => ?_) h3
    have e1 : (o id).gen = (o' id).gen := Nat.le_antisymm (hg id).1 (e ▸ h1)
    rw [(hg id).2 e1]
    exact h2 (e.trans e1.symm)
  | @row v id g h1 h2 h3 =>
    refine .row (Nat.le_trans h1 (hg id).1) (fun e => ?_) h3
    have e1 : (o id).gen = (o' id).gen := Nat.le_antisymm (hg id).1 (e ▸ h1)
    rw [(hg id).2 e1]
    exact h2 (e.trans e1.symm)
  | @rp v id g z i off h1 h2 =>
    refine .rp (Nat.le_trans h1 (hg id).1) (fun e => ?_)
    have e1 : (o id).gen = (o' id).gen := Nat.le_antisymm (hg id).1 (e ▸ h1)
    rw [(hg id).2 e1]
    exact h2 (e.trans e1.symm)
  | ag cs l c hz hc hl _ ih => exact .ag cs l c hz hc hl ih
  | tup cs l c hz hc _ ih => exact .tup cs l c hz hc ih
  | nilS => exact .nilS
  | fn f cs ds l m c d hz hc _ kz kc _ ih ik => exact .fn f cs ds l m c d hz hc ih kz kc ik
  | ifc ty v x _ ih => exact .ifc ty v x ih
  | junk => exact .junk

theorem Ra.mono2 {w w' : World} {D D' : Nat → Prop} {o : Nat → O} {ι : Nat → Value} (hd : ∀ g, D g → D' g) (hk : ∀ p c, w.cell? p = some c → w'.cell? p = some c) {v : Value} {x : A} (h : Ra w D o ι v x) : Ra w' D' o ι v x := by
  induction h with
  | t h => exact .t (h.mono2 hd hk)
  | ptr h1 h2 h3 => exact .ptr h1 h2 h3
  | row h1 h2 h3 => exact .row h1 h2 h3
  | rp h1 h2 => exact .rp h1 h2
  | ag cs l c hz hc hl _ ih => exact .ag cs l c hz hc hl ih
  | tup cs l c hz hc _ ih => exact .tup cs l c hz hc ih
  | nilS => exact .nilS
  | fn f cs ds l m c d hz hc _ kz kc _ ih ik => exact .fn f cs ds l m c d hz hc ih kz kc ik
  | ifc ty v x _ ih => exact .ifc ty v x ih
  | junk => exact .junk

theorem Ra.one {w : World} {D : Nat → Prop} {o : Nat → O} {ι : Nat → Value} {v : Value} {x : A} (h : Ra w D o ι v x) (hl : x.leaf = true) : v.oneCell' = true := by
  cases h with
  | t h => exact h.one hl
  | ptr _ _ h => exact h
  | row _ _ h => exact h
  | nilS => rfl
  | fn f cs ds l m c d hz hc h => rfl
  | ifc => rfl
  | _ => cases hl

def Value.blk : Value → Option Nat
  | .pointer (some a) => some a.block
  | .slice (some a) _ _ => some a.block
  | .map (some b) => some b
  | _ => none

/-- the block of an object that may be written -/
def mb (o : Nat → O) (ι : Nat → Value) (id : Nat) : Option Nat := match (o id).k with
  | .cells _ _ => Value.blk (ι id)
  | .row _ _ _ => Value.blk (ι id)
  | .rowA _ _ _ => Value.blk (ι id)
  | .map _ _ => Value.blk (ι id)
  | _ => none

/-- blocks that stay as they are -/
def Sd (B : Nat) (St : Nat → Prop) (o : Nat → O) (ι : Nat → Value) (w : World) (g : Nat) : Prop := (St g ∨ B ≤ g) ∧ g < w.heap.size ∧ ∀ i, mb o ι i ≠ some g

def Ob (B : Nat) (w : World) (D : Nat → Prop) (o : Nat → O) (ι : Nat → Value) (x : Value) : OK → Prop
  | .none => True
  | .cells ty l => ∃ blk cs, x = .pointer (some ⟨blk, 0, none⟩) ∧ B ≤ blk ∧ w.heap[blk]? = some (.cells cs ty (0, 0)) ∧ cs.size = l.length ∧ ∀ (j : Nat) y, l[j]? = some y → ∃ c, cs[j]? = some c ∧ y.leaf = true ∧ Ra w D o ι c y
  | .row ty z l => (∀ e ∈ l, e.length = z) ∧ ∃ xs, w.ownsRow B ty z x l.length xs ∧ ∀ (j : Nat) y, l.flatten[j]? = some y → ∃ c, xs[j]? = some c ∧ y.leaf = true ∧ Rt w D c y
  | .rowA ty z l => (∀ e ∈ l, e.length = z) ∧ ∃ xs, w.ownsRow B ty z x l.length xs ∧ ∀ (j : Nat) y, l.flatten[j]? = some y → ∃ c, xs[j]? = some c ∧ y.leaf = true ∧ Ra w D o ι c y
  | .ro l => Rt w D x (.sl l)
  | .map ks l => ∃ blk es clock, x = .map (some blk) ∧ B ≤ blk ∧ w.heap[blk]? = some (.map es clock) ∧ es.size = l.length ∧ (l.map (·.1)).Nodup ∧ (∀ p ∈ l, p.1.ok ks) ∧ ∀ (j : Nat) p, l[j]? = some p → ∃ e, es[j]? = some e ∧ e.key = p.1.v ∧ True ∧ Ra w D o ι e.val p.2

/-- a block that is neither cells nor a map -/
def Oth (ob : Obj) : Prop := (∀ cs ty z, ob ≠ .cells cs ty z) ∧ ∀ es ck, ob ≠ .map es ck
/-- what abides all that is done, but to the first blocks that are no cells and no maps -/
def XC (X : World → (Nat → Prop) → (Nat → O) → (Nat → Value) → Prop) (N : Nat) : Prop := ∀ w D o ι w' D' o' ι', (∀ (v : Value) (t : T), Rt w D v t → Rt w' D' v t) → (∀ (v : Value) (z : A), Ra w D o ι v z → Ra w' D' o' ι' v z) →
  w.heap.size ≤ w'.heap.size → (∀ (b : Nat) ob, b < N → Oth ob → w.heap[b]? = some ob → w'.heap[b]? = some ob) → X w D o ι → X w' D' o' ι'
/-- a mark of a range over a function -/
def mark (D : Nat) : Deferred := { target := .collected D, args := #[] }
/-- deferred calls: marks, and behind them what was deferred ahead of all -/
def DefIs (ds : List Deferred) (L : List Nat) : Prop := ∃ bs : List Deferred, ds = L.map mark ++ bs ∧ ∀ d ∈ bs, ∀ D, d.target ≠ .collected D
theorem DefIs.nil : DefIs [] [] := ⟨[], rfl, fun _ h => by cases h⟩
theorem DefIs.cons {ds : List Deferred} {L : List Nat} (h : DefIs ds L) (D : Nat) : DefIs (mark D :: ds) (D :: L) := by
  obtain ⟨bs, h1, h2⟩ := h
  exact ⟨bs, by rw [h1]; rfl, h2⟩
/-- memory is such a state -/
structure Rel (Hy : World → Prop) (X : World → (Nat → Prop) → (Nat → O) → (Nat → Value) → Prop) (B : Nat) (St : Nat → Prop) (w0 : World) (Dp : List Deferred → Prop) (s : S) (ι : Nat → Value) (a : Act) (w : World) : Prop where
  below : Below B w0 w
  hB : B ≤ w.heap.size
  ob : ∀ id, Ob B w (Sd B St s.o ι w) s.o ι (ι id) (s.o id).k
  inj : ∀ i j b, mb s.o ι i = some b → mb s.o ι j = some b → i = j
  tm : ∀ (t : Nat) v, a.tmps[t]? = some v → Ra w (Sd B St s.o ι w) s.o ι v (s.t t)
  dv : Dp a.defers
  sz : a.tmps.size = s.n
  stB : ∀ g, St g → g < B
  hy : ∀ w', Below B w0 w' → Hy w'
  x : X w (Sd B St s.o ι w) s.o ι
  xd : ∃ (N : Nat) (L : List Nat), N ≤ w.heap.size ∧ XC X N ∧ DefIs a.defers L ∧ L.Nodup ∧ ∀ D ∈ L, N ≤ D ∧ B ≤ D ∧ w.heap[D]? = some (.deferred (some []))

section
variable {Hy : World → Prop} {X : World → (Nat → Prop) → (Nat → O) → (Nat → Value) → Prop} {B : Nat} {St : Nat → Prop} {Dp : List Deferred → Prop} {w0 w w' : World} {s : S} {ι ι' : Nat → Value} {a : Act}

theorem Rel.mbB (h : Rel Hy X B St w0 Dp s ι a w) {id b : Nat} (e : mb s.o ι id = some b) : B ≤ b ∧ b < w.heap.size := by
  have ho := h.ob id
  unfold mb at e
  cases hk : (s.o id).k with
  | none => rw [hk] at e; cases e
  | ro l => rw [hk] at e; cases e
  | cells ty l =>
    rw [hk] at e ho
    obtain ⟨blk, cs, h1, h2, h3, _⟩ := ho
    rw [h1] at e
    cases e
    exact ⟨h2, (Array.getElem?_eq_some_iff.1 h3).1⟩
  | row ty z l =>
    rw [hk] at e ho
    obtain ⟨_, xs, h1, _⟩ := ho
    refine h1.lt b ?_
    rcases h1.2 with ⟨h2, _⟩ | ⟨g, cap, cur, h2, _⟩
    · rw [h2] at e; cases e
    · rw [h2] at e ⊢
      exact e
  | rowA ty z l =>
    rw [hk] at e ho
    obtain ⟨_, xs, h1, _⟩ := ho
    refine h1.lt b ?_
    rcases h1.2 with ⟨h2, _⟩ | ⟨g, cap, cur, h2, _⟩
    · rw [h2] at e; cases e
    · rw [h2] at e ⊢
      exact e
  | map ks l =>
    rw [hk] at e ho
    obtain ⟨blk, es, ck, h1, h2, h3, _⟩ := ho
    rw [h1] at e
    cases e
    exact ⟨h2, (Array.getElem?_eq_some_iff.1 h3).1⟩

theorem Rel.oth (h : Rel Hy X B St w0 Dp s ι a w) {b : Nat} {ob : Obj} (ho : Oth ob) (hb : w.heap[b]? = some ob) (id : Nat) : mb s.o ι id ≠ some b := fun e => by
  have hob := h.ob id
  unfold mb at e
  cases hk : (s.o id).k with
  | none => rw [hk] at e; cases e
  | ro l => rw [hk] at e; cases e
  | cells ty l =>
    rw [hk] at e hob
    obtain ⟨blk, cs, h1, _, h3, _⟩ := hob
    rw [h1] at e
    cases e
    rw [hb] at h3
    exact ho.1 _ _ _ (Option.some.inj h3)
  | map ks l =>
    rw [hk] at e hob
    obtain ⟨blk, es, ck, h1, _, h3, _⟩ := hob
    rw [h1] at e
    cases e
    rw [hb] at h3
    exact ho.2 _ _ (Option.some.inj h3)
  | row ty z l =>
    rw [hk] at e hob
    obtain ⟨_, xs, h1, _⟩ := hob
    rcases h1.2 with ⟨h2, _⟩ | ⟨g, cap, cur, h2, _, h3, _⟩
    · rw [h2] at e; cases e
    · rw [h2] at e
      cases e
      rw [hb] at h3
      exact ho.1 _ _ _ (Option.some.inj h3)
  | rowA ty z l =>
    rw [hk] at e hob
    obtain ⟨_, xs, h1, _⟩ := hob
    rcases h1.2 with ⟨h2, _⟩ | ⟨g, cap, cur, h2, _, h3, _⟩
    · rw [h2] at e; cases e
    · rw [h2] at e
      cases e
      rw [hb] at h3
      exact ho.1 _ _ _ (Option.some.inj h3)
theorem oth_def (ds : Option (List Deferred)) : Oth (.deferred ds) := ⟨fun _ _ _ e => (by cases e), fun _ _ e => (by cases e)⟩

/-- one object, and one temporary, are other ones -/
theorem Rel.next (h : Rel Hy X B St w0 Dp s ι a w) (id : Nat) (x : O) (u : Value) (d : Option Nat) (y : A) (v : Value)
    (hb : Below B w w') (hx : ∀ i, i ≠ id → ι' i = ι i) (hu : ι' id = u)
    (hg : (s.o id).gen ≤ x.gen) (hge : (s.o id).gen = x.gen → u = ι id)
    (hh : ∀ b, b < w.heap.size → mb s.o ι id ≠ some b → w'.heap[b]? = w.heap[b]?)
    (hm : ∀ b, mb (s.ob id x).o ι' id = some b → mb s.o ι id = some b ∨ w.heap.size ≤ b)
    (ho : (∀ (v : Value) (t : T), Rt w (Sd B St s.o ι w) v t → Rt w' (Sd B St (s.ob id x).o ι' w') v t) → (∀ (v : Value) (z : A), Ra w (Sd B St s.o ι w) s.o ι v z → Ra w' (Sd B St (s.ob id x).o ι' w') (s.ob id x).o ι' v z) →
      Ob B w' (Sd B St (s.ob id x).o ι' w') (s.ob id x).o ι' u x.k)
    (hv : (∀ (v : Value) (t : T), Rt w (Sd B St s.o ι w) v t → Rt w' (Sd B St (s.ob id x).o ι' w') v t) → (∀ (v : Value) (z : A), Ra w (Sd B St s.o ι w) s.o ι v z → Ra w' (Sd B St (s.ob id x).o ι' w') (s.ob id x).o ι' v z) →
      d ≠ none → Ra w' (Sd B St (s.ob id x).o ι' w') (s.ob id x).o ι' v y) :
    Rel Hy X B St w0 Dp ((s.ob id x).put d y) ι' (a.put d v) w' := by
  have os : ∀ i, i ≠ id → (s.ob id x).o i = s.o i := fun i hi => if_neg hi
  have oi : (s.ob id x).o id = x := if_pos rfl
  have hmo : ∀ i, i ≠ id → mb (s.ob id x).o ι' i = mb s.o ι i := fun i hi => by unfold mb; rw [os i hi, hx i hi]
  have hk : ∀ g, Sd B St s.o ι w g → Sd B St (s.ob id x).o ι' w' g ∧ w'.heap[g]? = w.heap[g]? := fun g hq => by
    refine ⟨⟨hq.1, Nat.lt_of_lt_of_le hq.2.1 hb.size, fun i e => ?_⟩, hh g hq.2.1 (hq.2.2 id)⟩
    by_cases hi : i = id
    · subst hi
      rcases hm g e with e | e
      · exact hq.2.2 _ e
      · exact absurd hq.2.1 (Nat.not_lt.2 e)
    · rw [hmo i hi] at e
      exact hq.2.2 _ e
  have hgs : ∀ i, (s.o i).gen ≤ ((s.ob id x).o i).gen ∧ ((s.o i).gen = ((s.ob id x).o i).gen → ι' i = ι i) := fun i => by
    by_cases hi : i = id
    · subst hi
      rw [oi]
      exact ⟨hg, fun e => hu.trans (hge e)⟩
    · rw [os i hi]
      exact ⟨Nat.le_refl _, fun _ => hx i hi⟩
  have mT : ∀ (v : Value) (t : T), Rt w (Sd B St s.o ι w) v t → Rt w' (Sd B St (s.ob id x).o ι' w') v t := fun v t ht => ht.mono hk
  have mA : ∀ (v : Value) (z : A), Ra w (Sd B St s.o ι w) s.o ι v z → Ra w' (Sd B St (s.ob id x).o ι' w') (s.ob id x).o ι' v z := fun v z hz => hz.mono hk hgs
  have eo : ((s.ob id x).put d y).o = (s.ob id x).o := by unfold S.put; split <;> rfl
  have kept : ∀ (b : Nat) ob, Oth ob → w.heap[b]? = some ob → w'.heap[b]? = some ob := fun b ob ho hb2 => (hh b (Array.getElem?_eq_some_iff.1 hb2).1 (h.oth ho hb2 id)).trans hb2
  refine ⟨h.below.trans hb, Nat.le_trans h.hB hb.size, ?_, ?_, ?_, by cases d <;> exact h.dv, ?_, h.stB, h.hy, ?_, ?_⟩
  · rw [eo]
    intro i
    by_cases hi : i = id
    · subst hi
      rw [oi, hu]
      exact ho mT mA
    · have hob := h.ob i
      rw [os i hi, hx i hi]
      have same : ∀ b, mb s.o ι i = some b → w'.heap[b]? = w.heap[b]? := fun b e => hh b (h.mbB e).2 (fun e2 => hi (h.inj _ _ _ e e2))
      cases hkk : (s.o i).k with
      | none => exact trivial
      | ro l => rw [hkk] at hob; exact mT _ _ hob
      | cells ty l =>
        rw [hkk] at hob
        obtain ⟨blk, cs, h1, h2, h3, h4, h5⟩ := hob
        refine ⟨blk, cs, h1, h2, ?_, h4, fun j y hy => ?_⟩
        · rw [same blk (by unfold mb; rw [hkk, h1]; rfl)]
          exact h3
        · obtain ⟨c, hc, hl, hr⟩ := h5 j y hy
          exact ⟨c, hc, hl, mA _ _ hr⟩
      | row ty z l =>
        rw [hkk] at hob
        obtain ⟨h1, xs, h2, h3⟩ := hob
        refine ⟨h1, xs, ⟨h2.1, ?_⟩, fun j y hy => ?_⟩
        · rcases h2.2 with h4 | ⟨g, cap, cur, hv, hb2, hg2, rest⟩
          · exact .inl h4
          · refine .inr ⟨g, cap, cur, hv, hb2, ?_, rest⟩
            rw [same g (by unfold mb; rw [hkk, hv]; rfl)]
            exact hg2
        · obtain ⟨c, hc, hl, hr⟩ := h3 j y hy
          exact ⟨c, hc, hl, mT _ _ hr⟩
      | rowA ty z l =>
        rw [hkk] at hob
        obtain ⟨h1, xs, h2, h3⟩ := hob
        refine ⟨h1, xs, ⟨h2.1, ?_⟩, fun j y hy => ?_⟩
        · rcases h2.2 with h4 | ⟨g, cap, cur, hv, hb2, hg2, rest⟩
          · exact .inl h4
          · refine .inr ⟨g, cap, cur, hv, hb2, ?_, rest⟩
            rw [same g (by unfold mb; rw [hkk, hv]; rfl)]
            exact hg2
        · obtain ⟨c, hc, hl, hr⟩ := h3 j y hy
          exact ⟨c, hc, hl, mA _ _ hr⟩
      | map ks l =>
        rw [hkk] at hob
        obtain ⟨blk, es, ck, h1, h2, h3, h4, h5, h6, h7⟩ := hob
        refine ⟨blk, es, ck, h1, h2, ?_, h4, h5, h6, fun j y hy => ?_⟩
        · rw [same blk (by unfold mb; rw [hkk, h1]; rfl)]
          exact h3
        · obtain ⟨c, hc, hk2, hl, hr⟩ := h7 j y hy
          exact ⟨c, hc, hk2, hl, mA _ _ hr⟩
  · rw [eo]
    intro i j b e1 e2
    by_cases hi : i = id
    · by_cases hj : j = id
      · rw [hi, hj]
      · subst hi
        rw [hmo j hj] at e2
        rcases hm b e1 with e | e
        · exact absurd (h.inj _ _ _ e2 e) hj
        · exact absurd (h.mbB e2).2 (Nat.not_lt.2 e)
    · rw [hmo i hi] at e1
      by_cases hj : j = id
      · subst hj
        rcases hm b e2 with e | e
        · exact absurd (h.inj _ _ _ e1 e) hi
        · exact absurd (h.mbB e1).2 (Nat.not_lt.2 e)
      · rw [hmo j hj] at e2
        exact h.inj _ _ _ e1 e2
  · rw [eo]
    intro t v1 e
    cases d with
    | none => exact mA _ _ (h.tm t v1 e)
    | some d =>
      by_cases ht : t = d
      · subst ht
        have : v1 = v := by
          simp only [Act.put, Array.getElem?_setIfInBounds, if_true] at e
          split at e
          · exact (Option.some.inj e).symm
          · cases e
        subst this
        rw [show ((s.ob id x).put (some t) y).t t = y from if_pos rfl]
        exact hv mT mA (by simp)
      · rw [show ((s.ob id x).put (some d) y).t t = s.t t from if_neg ht]
        refine mA _ _ (h.tm t v1 ?_)
        simp only [Act.put, Array.getElem?_setIfInBounds] at e
        rwa [if_neg (fun e2 => ht e2.symm)] at e
  · cases d with
    | none => exact h.sz
    | some d => exact Array.size_setIfInBounds.trans h.sz
  · rw [eo]
    obtain ⟨N, L, n1, n2, _⟩ := h.xd
    exact n2 _ _ _ _ _ _ _ _ mT mA hb.size (fun b ob _ => kept b ob) h.x
  · obtain ⟨N, L, n1, n2, n3, n4, n5⟩ := h.xd
    exact ⟨N, L, Nat.le_trans n1 hb.size, n2, by cases d <;> exact n3, n4, fun D hD => ⟨(n5 D hD).1, (n5 D hD).2.1, kept D _ (oth_def _) (n5 D hD).2.2⟩⟩

theorem S.ob_self (s : S) (id : Nat) : s.ob id (s.o id) = s := by
  unfold S.ob
  congr 1
  funext j
  split
  · rename_i e
    rw [e]
  · rfl

/-- nothing but a temporary is another one -/
theorem Rel.pure (h : Rel Hy X B St w0 Dp s ι a w) (d : Option Nat) (y : A) (v : Value) (hv : d ≠ none → Ra w (Sd B St s.o ι w) s.o ι v y) : Rel Hy X B St w0 Dp (s.put d y) ι (a.put d v) w := by
  have := Rel.next (w' := w) (ι' := ι) h 0 (s.o 0) (ι 0) d y v (Below.refl _ _) (fun _ _ => rfl) rfl (Nat.le_refl _) (fun _ => rfl) (fun _ _ _ => rfl) (fun b e => by rw [S.ob_self] at e; exact .inl e)
    (fun mT mA => by rw [S.ob_self]; exact h.ob 0) (fun mT mA hd => by rw [S.ob_self]; exact hv hd)
  rwa [S.ob_self] at this

/-- the heap keeps what is there -/
theorem Rel.keep (h : Rel Hy X B St w0 Dp s ι a w) (hb : Below w.heap.size w w') (d : Option Nat) (y : A) (v : Value) (hv : d ≠ none → Ra w' (Sd B St s.o ι w') s.o ι v y) : Rel Hy X B St w0 Dp (s.put d y) ι (a.put d v) w' := by
  have := Rel.next (w' := w') (ι' := ι) h 0 (s.o 0) (ι 0) d y v (hb.mono h.hB) (fun _ _ => rfl) rfl (Nat.le_refl _) (fun _ => rfl) (fun b hl _ => hb.block b hl) (fun b e => by rw [S.ob_self] at e; exact .inl e)
    (fun mT mA => by
      rw [S.ob_self] at mT mA ⊢
      have hob := h.ob 0
      have same : ∀ b, mb s.o ι 0 = some b → w'.heap[b]? = w.heap[b]? := fun b e => hb.block b (h.mbB e).2
      cases hkk : (s.o 0).k with
      | none => exact trivial
      | ro l => rw [hkk] at hob; exact mT _ _ hob
      | cells ty l =>
        rw [hkk] at hob
        obtain ⟨blk, cs, h1, h2, h3, h4, h5⟩ := hob
        refine ⟨blk, cs, h1, h2, ?_, h4, fun j y hy => ?_⟩
        · rw [same blk (by unfold mb; rw [hkk, h1]; rfl)]
          exact h3
        · obtain ⟨c, hc, hl, hr⟩ := h5 j y hy
          exact ⟨c, hc, hl, mA _ _ hr⟩
      | row ty z l =>
        rw [hkk] at hob
        obtain ⟨h1, xs, h2, h3⟩ := hob
        refine ⟨h1, xs, ⟨h2.1, ?_⟩, fun j y hy => ?_⟩
        · rcases h2.2 with h4 | ⟨g, cap, cur, hv, hb2, hg2, rest⟩
          · exact .inl h4
          · refine .inr ⟨g, cap, cur, hv, hb2, ?_, rest⟩
            rw [same g (by unfold mb; rw [hkk, hv]; rfl)]
            exact hg2
        · obtain ⟨c, hc, hl, hr⟩ := h3 j y hy
          exact ⟨c, hc, hl, mT _ _ hr⟩
      | rowA ty z l =>
        rw [hkk] at hob
        obtain ⟨h1, xs, h2, h3⟩ := hob
        refine ⟨h1, xs, ⟨h2.1, ?_⟩, fun j y hy => ?_⟩
        · rcases h2.2 with h4 | ⟨g, cap, cur, hv, hb2, hg2, rest⟩
          · exact .inl h4
          · refine .inr ⟨g, cap, cur, hv, hb2, ?_, rest⟩
            rw [same g (by unfold mb; rw [hkk, hv]; rfl)]
            exact hg2
        · obtain ⟨c, hc, hl, hr⟩ := h3 j y hy
          exact ⟨c, hc, hl, mA _ _ hr⟩
      | map ks l =>
        rw [hkk] at hob
        obtain ⟨blk, es, ck, h1, h2, h3, h4, h5, h6, h7⟩ := hob
        refine ⟨blk, es, ck, h1, h2, ?_, h4, h5, h6, fun j y hy => ?_⟩
        · rw [same blk (by unfold mb; rw [hkk, h1]; rfl)]
          exact h3
        · obtain ⟨c, hc, hk2, hl, hr⟩ := h7 j y hy
          exact ⟨c, hc, hk2, hl, mA _ _ hr⟩)
    (fun mT mA hd => by rw [S.ob_self]; exact hv hd)
  rwa [S.ob_self] at this
end
end Go.Proofs.YtfflfmpkjcomgaaDoor
