import Derived.WalkKit
import Derived.Below
import Derived.Laws.AppendOwn
import Derived.Laws.OwnMore
import Derived.Laws.MakeOwn
import Derived.Maps.Keyed
import Derived.Deep.MidRow
import Derived.ChangeKeysEq
import Derived.Laws.Strings
import Derived.WideLaws
namespace Go.Proofs.YtbhoeanfnbkenaaGreatDoor
open Go.RowKit
inductive T where
 | b (x : Bool)
 | i (k : IntKind) (n : Int)
 | s (x : ByteArray)
 | ag (l : List T)
 | sl (l : List (List T))
 | cp (l : List T)
 | ifc (ty : TypeId) (x : T)
 | nif
 | np
 | nfn
 | nmp
 | yl (l : Nat)
def T.leaf : T → Bool
 | .ag _ => false
 | _ => true
inductive A where
 | t (x : T)
 | ptr (id g off : Nat)
 | row (id g : Nat)
 | rp (id g z i off : Nat)
 | ag (l : List A)
 | tup (l : List A)
 | nilS
 | fn (f : FuncId) (fst caps : List A)
 | ifc (ty : TypeId) (x : A)
 | junk
def A.leaf : A → Bool
 | .t x => x.leaf
 | .ptr .. => true
 | .row .. => true
 | .nilS => true
 | .fn _ _ _ => true
 | .ifc _ _ => true
 | _ => false
def inR : IntKind → Int → Prop
 | .i8, n => -128 ≤ n ∧ n ≤ 127
 | .i16, n => -32768 ≤ n ∧ n ≤ 32767
 | .i32, n => -2147483648 ≤ n ∧ n ≤ 2147483647
 | .i64, n => -9223372036854775808 ≤ n ∧ n ≤ 9223372036854775807
 | .u8, n => 0 ≤ n ∧ n ≤ 255
 | .u16, n => 0 ≤ n ∧ n ≤ 65535
 | .u32, n => 0 ≤ n ∧ n ≤ 4294967295
 | .u64, n => 0 ≤ n ∧ n ≤ 18446744073709551615
inductive Ky where
 | i (k : IntKind) (n : Int)
 | s (x : ByteArray)
 | a (k : IntKind) (l : List Int)
 deriving DecidableEq
def Ky.v : Ky → Value
 | .i k n => .int k n
 | .s x => .string x
 | .a k l => .agg (l.map (Value.int k)).toArray
inductive KS where
 | int (q : IntKind)
 | str
 | arr (q : IntKind) (n : Nat)
def Ky.ok : KS → Ky → Prop
 | .int q, .i k n => k = q ∧ inR q n
 | .str, .s x => x.size ≤ 9223372036854775807
 | .arr q m, .a k l => k = q ∧ l.length = m ∧ ∀ n ∈ l, inR q n
 | _, _ => False
inductive OK where
 | none
 | cells (ty : TypeId) (l : List A)
 | row (ty : TypeId) (z : Nat) (l : List (List T))
 | rowA (ty : TypeId) (z : Nat) (l : List (List A))
 | ro (l : List (List T))
 | map (ks : KS) (l : List (Ky × A))
structure O where
 gen : Nat
 k : OK
structure S where
 n : Nat
 t : Nat → A
 o : Nat → O
def S.put (s : S) (d : Option Nat) (x : A) : S := match d with
 | some d => { s with t := fun j => if j = d then x else s.t j }
 | none => s
def S.ob (s : S) (id : Nat) (x : O) : S := { s with o := fun j => if j = id then x else s.o j }
inductive Rt (w : World) (D : Nat → Prop) : Value → T → Prop where
 | b (x : Bool) : Rt w D (.bool x) (.b x)
 | i (k : IntKind) (n : Int) : Rt w D (.int k n) (.i k n)
 | s (x : ByteArray) : Rt w D (.string x) (.s x)
 | ag (cs : Array Value) (l : List T) (c : Nat → Value) (hz : cs.size = l.length) (hc : ∀ j, j < l.length → cs[j]? = some (c j)) (hl : ∀ (j : Nat) t, l[j]? = some t → t.leaf = true)
   (h : ∀ (j : Nat) t, l[j]? = some t → Rt w D (c j) t) : Rt w D (.agg cs) (.ag l)
 | sl0 (a : Option Addr) (cap : Nat) (h : a = none → cap = 0) : Rt w D (.slice a 0 cap) (.sl [])
 | sl (g o n cap z : Nat) (l : List (List T)) (c : Nat → Value) (hn : n = l.length) (hq : n ≤ cap) (hD : D g) (hz : ∀ e ∈ l, e.length = z) (hc : ∀ j, j < l.length * z → w.cell? ⟨g, o + j, none⟩ = some (c j))
   (hl : ∀ (j : Nat) t, l.flatten[j]? = some t → t.leaf = true) (h : ∀ (j : Nat) t, l.flatten[j]? = some t → Rt w D (c j) t) : Rt w D (.slice (some ⟨g, o, none⟩) n cap) (.sl l)
 | cp (blk off : Nat) (l : List T) (c : Nat → Value) (hD : D blk) (hc : ∀ j, j < l.length → w.cell? ⟨blk, off + j, none⟩ = some (c j)) (hl : ∀ (j : Nat) t, l[j]? = some t → t.leaf = true)
   (h : ∀ (j : Nat) t, l[j]? = some t → Rt w D (c j) t) : Rt w D (.pointer (some ⟨blk, off, none⟩)) (.cp l)
 | ifc (ty : TypeId) (v : Value) (x : T) (h : Rt w D v x) : Rt w D (.iface ty v) (.ifc ty x)
 | nif : Rt w D .nilIface .nif
 | np : Rt w D (.pointer none) .np
 | nfn : Rt w D .nilFunc .nfn
 | nmp : Rt w D (.map none) .nmp
 | yl (l : Nat) : Rt w D (.func (.yield l) #[] #[]) (.yl l)
theorem zbh {α : Type} {z : Nat} : ∀ {l : List (List α)}, (∀ e ∈ l, e.length = z) → l.flatten.length = l.length * z
 | [], _ => by simp
 | e :: l, h => by
  rw [List.flatten_cons, List.length_append, h e List.mem_cons_self, zbh (fun x hx => h x (List.mem_cons_of_mem _ hx)), List.length_cons, Nat.add_mul]
  omega
theorem zcE {α : Type} {z : Nat} : ∀ {l : List (List α)} {i j : Nat} {e : List α} {t : α}, (∀ e ∈ l, e.length = z) → l[i]? = some e → e[j]? = some t → l.flatten[i * z + j]? = some t
 | [], i, j, e, t, _, h, _ => by simp at h
 | x :: l, 0, j, e, t, _, h, ht => by
  simp only [List.getElem?_cons_zero, Option.some.injEq] at h
  subst h
  rw [List.flatten_cons, Nat.zero_mul, Nat.zero_add, List.getElem?_append_left (List.getElem?_eq_some_iff.1 ht).1]
  exact ht
 | x :: l, i + 1, j, e, t, hz, h, ht => by
  have hx := hz x List.mem_cons_self
  rw [List.flatten_cons, List.getElem?_append_right (by rw [hx, Nat.add_mul]; omega), hx, show (i + 1) * z + j - z = i * z + j from by rw [Nat.add_mul]; omega]
  exact zcE (fun y hy => hz y (List.mem_cons_of_mem _ hy)) (by simpa using h) ht
theorem Rt.mono {w w' : World} {D D' : Nat → Prop} (hk : ∀ g, D g → D' g ∧ w'.heap[g]? = w.heap[g]?) {v : Value} {t : T} (h : Rt w D v t) : Rt w' D' v t := by
 induction h with
 | b x => exact .b x
 | i k n => exact .i k n
 | s x => exact .s x
 | ag cs l c hz hc hl _ ih => exact .ag cs l c hz hc hl ih
 | sl0 a cap h => exact .sl0 a cap h
 | sl g o n cap z l c hn hq hD hz hc hl _ ih =>
  exact .sl g o n cap z l c hn hq (hk g hD).1 hz (fun j hj => (World.cell?_of_block (w := w) (hk g hD).2).trans (hc j hj)) hl ih
 | cp blk off l c hD hc hl _ ih => exact .cp blk off l c (hk _ hD).1 (fun j hj => (World.cell?_of_block (w := w) (hk blk hD).2).trans (hc j hj)) hl ih
 | ifc ty v x _ ih => exact .ifc ty v x ih
 | nif => exact .nif
 | np => exact .np
 | nfn => exact .nfn
 | nmp => exact .nmp
 | yl l => exact .yl l
theorem Rt.mono2 {w w' : World} {D D' : Nat → Prop} (hd : ∀ g, D g → D' g) (hk : ∀ p c, w.cell? p = some c → w'.cell? p = some c) {v : Value} {t : T} (h : Rt w D v t) : Rt w' D' v t := by
 induction h with
 | b x => exact .b x
 | i k n => exact .i k n
 | s x => exact .s x
 | ag cs l c hz hc hl _ ih => exact .ag cs l c hz hc hl ih
 | sl0 a cap h => exact .sl0 a cap h
 | sl g o n cap z l c hn hq hD hz hc hl _ ih => exact .sl g o n cap z l c hn hq (hd _ hD) hz (fun j hj => hk _ _ (hc j hj)) hl ih
 | cp blk off l c hD hc hl _ ih => exact .cp blk off l c (hd _ hD) (fun j hj => hk _ _ (hc j hj)) hl ih
 | ifc ty v x _ ih => exact .ifc ty v x ih
 | nif => exact .nif
 | np => exact .np
 | nfn => exact .nfn
 | nmp => exact .nmp
 | yl l => exact .yl l
theorem Rt.one {w : World} {D : Nat → Prop} {v : Value} {t : T} (h : Rt w D v t) (hl : t.leaf = true) : v.oneCell' = true := by
 cases h <;> first | rfl | cases hl
inductive Ra (w : World) (D : Nat → Prop) (o : Nat → O) (ι : Nat → Value) : Value → A → Prop where
 | t {v : Value} {x : T} (h : Rt w D v x) : Ra w D o ι v (.t x)
 | ptr {v : Value} {id g off : Nat} (hg : g ≤ (o id).gen) (h : g = (o id).gen → ∃ blk, ι id = .pointer (some ⟨blk, 0, none⟩) ∧ v = .pointer (some ⟨blk, off, none⟩)) (h1 : v.oneCell' = true) : Ra w D o ι v (.ptr id g off)
 | row {v : Value} {id g : Nat} (hg : g ≤ (o id).gen) (h : g = (o id).gen → v = ι id) (h1 : v.oneCell' = true) : Ra w D o ι v (.row id g)
 | rp {v : Value} {id g z i off : Nat} (hg : g ≤ (o id).gen) (h : g = (o id).gen → ∃ blk n cap, ι id = .slice (some ⟨blk, 0, none⟩) n cap ∧ v = .pointer (some ⟨blk, i * z + off, none⟩)) : Ra w D o ι v (.rp id g z i off)
 | ag (cs : Array Value) (l : List A) (c : Nat → Value) (hz : cs.size = l.length) (hc : ∀ j, j < l.length → cs[j]? = some (c j)) (hl : ∀ (j : Nat) x, l[j]? = some x → x.leaf = true)
   (h : ∀ (j : Nat) x, l[j]? = some x → Ra w D o ι (c j) x) : Ra w D o ι (.agg cs) (.ag l)
 | tup (cs : Array Value) (l : List A) (c : Nat → Value) (hz : cs.size = l.length) (hc : ∀ j, j < l.length → cs[j]? = some (c j))
   (h : ∀ (j : Nat) x, l[j]? = some x → Ra w D o ι (c j) x) : Ra w D o ι (.tuple cs) (.tup l)
 | nilS : Ra w D o ι (.slice none 0 0) .nilS
 | fn (f : FuncId) (cs ds : Array Value) (l m : List A) (c d : Nat → Value) (hz : cs.size = l.length) (hc : ∀ j, j < l.length → cs[j]? = some (c j)) (h : ∀ (j : Nat) x, l[j]? = some x → Ra w D o ι (c j) x)
   (kz : ds.size = m.length) (kc : ∀ j, j < m.length → ds[j]? = some (d j)) (k : ∀ (j : Nat) x, m[j]? = some x → Ra w D o ι (d j) x) : Ra w D o ι (.func (.func f) cs ds) (.fn f l m)
 | ifc (ty : TypeId) (v : Value) (x : A) (h : Ra w D o ι v x) : Ra w D o ι (.iface ty v) (.ifc ty x)
 | junk {v : Value} : Ra w D o ι v .junk
theorem Ra.mono {w w' : World} {D D' : Nat → Prop} {o o' : Nat → O} {ι ι' : Nat → Value} (hk : ∀ g, D g → D' g ∧ w'.heap[g]? = w.heap[g]?)
  (hg : ∀ id, (o id).gen ≤ (o' id).gen ∧ ((o id).gen = (o' id).gen → ι' id = ι id)) {v : Value} {x : A} (h : Ra w D o ι v x) : Ra w' D' o' ι' v x := by
 induction h with
 | t h => exact .t (h.mono hk)
 | @ptr v id g off h1 h2 h3 =>
  refine .ptr (Nat.le_trans h1 (hg id).1) (fun e => ?_) h3
  have e1 : (o id).gen = (o' id).gen := Nat.le_antisymm (hg id).1 (e ▸ h1)
  rw [(hg id).2 e1]
  exact h2 (e.trans e1.symm)
 | @row v id g h1 h2 h3 =>
  refine .row (Nat.le_trans h1 (hg id).1) (fun e => ?_) h3
  have e1 : (o id).gen = (o' id).gen := Nat.le_antisymm (hg id).1 (e ▸ h1)
  rw [(hg id).2 e1]
  exact h2 (e.trans e1.symm)
 | @rp v id g z i off h1 h2 =>
  refine .rp (Nat.le_trans h1 (hg id).1) (fun e => ?_)
  have e1 : (o id).gen = (o' id).gen := Nat.le_antisymm (hg id).1 (e ▸ h1)
  rw [(hg id).2 e1]
  exact h2 (e.trans e1.symm)
 | ag cs l c hz hc hl _ ih => exact .ag cs l c hz hc hl ih
 | tup cs l c hz hc _ ih => exact .tup cs l c hz hc ih
 | nilS => exact .nilS
 | fn f cs ds l m c d hz hc _ kz kc _ ih ik => exact .fn f cs ds l m c d hz hc ih kz kc ik
 | ifc ty v x _ ih => exact .ifc ty v x ih
 | junk => exact .junk
theorem Ra.mono2 {w w' : World} {D D' : Nat → Prop} {o : Nat → O} {ι : Nat → Value} (hd : ∀ g, D g → D' g) (hk : ∀ p c, w.cell? p = some c → w'.cell? p = some c) {v : Value} {x : A} (h : Ra w D o ι v x) : Ra w' D' o ι v x := by
 induction h with
 | t h => exact .t (h.mono2 hd hk)
 | ptr h1 h2 h3 => exact .ptr h1 h2 h3
 | row h1 h2 h3 => exact .row h1 h2 h3
 | rp h1 h2 => exact .rp h1 h2
 | ag cs l c hz hc hl _ ih => exact .ag cs l c hz hc hl ih
 | tup cs l c hz hc _ ih => exact .tup cs l c hz hc ih
 | nilS => exact .nilS
 | fn f cs ds l m c d hz hc _ kz kc _ ih ik => exact .fn f cs ds l m c d hz hc ih kz kc ik
 | ifc ty v x _ ih => exact .ifc ty v x ih
 | junk => exact .junk
theorem Ra.one {w : World} {D : Nat → Prop} {o : Nat → O} {ι : Nat → Value} {v : Value} {x : A} (h : Ra w D o ι v x) (hl : x.leaf = true) : v.oneCell' = true := by
 cases h with
 | t h => exact h.one hl
 | ptr _ _ h => exact h
 | row _ _ h => exact h
 | nilS => rfl
 | fn f cs ds l m c d hz hc h => rfl
 | ifc => rfl
 | _ => cases hl
def Value.blk : Value → Option Nat
 | .pointer (some a) => some a.block
 | .slice (some a) _ _ => some a.block
 | .map (some b) => some b
 | _ => none
def mb (o : Nat → O) (ι : Nat → Value) (id : Nat) : Option Nat := match (o id).k with
 | .cells _ _ => Value.blk (ι id)
 | .row _ _ _ => Value.blk (ι id)
 | .rowA _ _ _ => Value.blk (ι id)
 | .map _ _ => Value.blk (ι id)
 | _ => none
def Sd (B : Nat) (St : Nat → Prop) (o : Nat → O) (ι : Nat → Value) (w : World) (g : Nat) : Prop := (St g ∨ B ≤ g) ∧ g < w.heap.size ∧ ∀ i, mb o ι i ≠ some g
def Ob (B : Nat) (w : World) (D : Nat → Prop) (o : Nat → O) (ι : Nat → Value) (x : Value) : OK → Prop
 | .none => True
 | .cells ty l => ∃ blk cs, x = .pointer (some ⟨blk, 0, none⟩) ∧ B ≤ blk ∧ w.heap[blk]? = some (.cells cs ty (0, 0)) ∧ cs.size = l.length ∧ ∀ (j : Nat) y, l[j]? = some y → ∃ c, cs[j]? = some c ∧ y.leaf = true ∧ Ra w D o ι c y
 | .row ty z l => (∀ e ∈ l, e.length = z) ∧ ∃ xs, w.ownsRow B ty z x l.length xs ∧ ∀ (j : Nat) y, l.flatten[j]? = some y → ∃ c, xs[j]? = some c ∧ y.leaf = true ∧ Rt w D c y
 | .rowA ty z l => (∀ e ∈ l, e.length = z) ∧ ∃ xs, w.ownsRow B ty z x l.length xs ∧ ∀ (j : Nat) y, l.flatten[j]? = some y → ∃ c, xs[j]? = some c ∧ y.leaf = true ∧ Ra w D o ι c y
 | .ro l => Rt w D x (.sl l)
 | .map ks l => ∃ blk es clock, x = .map (some blk) ∧ B ≤ blk ∧ w.heap[blk]? = some (.map es clock) ∧ es.size = l.length ∧ (l.map (·.1)).Nodup ∧ (∀ p ∈ l, p.1.ok ks) ∧ ∀ (j : Nat) p, l[j]? = some p → ∃ e, es[j]? = some e ∧ e.key = p.1.v ∧ True ∧ Ra w D o ι e.val p.2
def Oth (ob : Obj) : Prop := (∀ cs ty z, ob ≠ .cells cs ty z) ∧ ∀ es ck, ob ≠ .map es ck
def XC (X : World → (Nat → Prop) → (Nat → O) → (Nat → Value) → Prop) (N : Nat) : Prop := ∀ w D o ι w' D' o' ι', (∀ (v : Value) (t : T), Rt w D v t → Rt w' D' v t) → (∀ (v : Value) (z : A), Ra w D o ι v z → Ra w' D' o' ι' v z) →
 w.heap.size ≤ w'.heap.size → (∀ (b : Nat) ob, b < N → Oth ob → w.heap[b]? = some ob → w'.heap[b]? = some ob) → X w D o ι → X w' D' o' ι'
def mark (D : Nat) : Deferred := { target := .collected D, args := #[] }
def DefIs (ds : List Deferred) (L : List Nat) : Prop := ∃ bs : List Deferred, ds = L.map mark ++ bs ∧ ∀ d ∈ bs, ∀ D, d.target ≠ .collected D
theorem DefIs.nil : DefIs [] [] := ⟨[], rfl, fun _ h => by cases h⟩
theorem DefIs.cons {ds : List Deferred} {L : List Nat} (h : DefIs ds L) (D : Nat) : DefIs (mark D :: ds) (D :: L) := by
 obtain ⟨bs, h1, h2⟩ := h
 exact ⟨bs, by rw [h1]; rfl, h2⟩
structure Rel (Hy : World → Prop) (X : World → (Nat → Prop) → (Nat → O) → (Nat → Value) → Prop) (B : Nat) (St : Nat → Prop) (w0 : World) (Dp : List Deferred → Prop) (s : S) (ι : Nat → Value) (a : Act) (w : World) : Prop where
 below : Below B w0 w
 hB : B ≤ w.heap.size
 ob : ∀ id, Ob B w (Sd B St s.o ι w) s.o ι (ι id) (s.o id).k
 inj : ∀ i j b, mb s.o ι i = some b → mb s.o ι j = some b → i = j
 tm : ∀ (t : Nat) v, a.tmps[t]? = some v → Ra w (Sd B St s.o ι w) s.o ι v (s.t t)
 dv : Dp a.defers
 sz : a.tmps.size = s.n
 stB : ∀ g, St g → g < B
 hy : ∀ w', Below B w0 w' → Hy w'
 x : X w (Sd B St s.o ι w) s.o ι
 xd : ∃ (N : Nat) (L : List Nat), N ≤ w.heap.size ∧ XC X N ∧ DefIs a.defers L ∧ L.Nodup ∧ ∀ D ∈ L, N ≤ D ∧ B ≤ D ∧ w.heap[D]? = some (.deferred (some []))
section
variable {Hy : World → Prop} {X : World → (Nat → Prop) → (Nat → O) → (Nat → Value) → Prop} {B : Nat} {St : Nat → Prop} {Dp : List Deferred → Prop} {w0 w w' : World} {s : S} {ι ι' : Nat → Value} {a : Act}
theorem Rel.mbB (h : Rel Hy X B St w0 Dp s ι a w) {id b : Nat} (e : mb s.o ι id = some b) : B ≤ b ∧ b < w.heap.size := by
 have ho := h.ob id
 unfold mb at e
 cases hk : (s.o id).k with
 | none => rw [hk] at e; cases e
 | ro l => rw [hk] at e; cases e
 | cells ty l =>
  rw [hk] at e ho
  obtain ⟨blk, cs, h1, h2, h3, _⟩ := ho
  rw [h1] at e
  cases e
  exact ⟨h2, (Array.getElem?_eq_some_iff.1 h3).1⟩
 | row ty z l =>
  rw [hk] at e ho
  obtain ⟨_, xs, h1, _⟩ := ho
  refine h1.lt b ?_
  rcases h1.2 with ⟨h2, _⟩ | ⟨g, cap, cur, h2, _⟩
  ·rw [h2] at e; cases e
  ·rw [h2] at e ⊢
   exact e
 | rowA ty z l =>
  rw [hk] at e ho
  obtain ⟨_, xs, h1, _⟩ := ho
  refine h1.lt b ?_
  rcases h1.2 with ⟨h2, _⟩ | ⟨g, cap, cur, h2, _⟩
  ·rw [h2] at e; cases e
  ·rw [h2] at e ⊢
   exact e
 | map ks l =>
  rw [hk] at e ho
  obtain ⟨blk, es, ck, h1, h2, h3, _⟩ := ho
  rw [h1] at e
  cases e
  exact ⟨h2, (Array.getElem?_eq_some_iff.1 h3).1⟩
theorem Rel.oth (h : Rel Hy X B St w0 Dp s ι a w) {b : Nat} {ob : Obj} (ho : Oth ob) (hb : w.heap[b]? = some ob) (id : Nat) : mb s.o ι id ≠ some b := fun e => by
 have hob := h.ob id
 unfold mb at e
 cases hk : (s.o id).k with
 | none => rw [hk] at e; cases e
 | ro l => rw [hk] at e; cases e
 | cells ty l =>
  rw [hk] at e hob
  obtain ⟨blk, cs, h1, _, h3, _⟩ := hob
  rw [h1] at e
  cases e
  rw [hb] at h3
  exact ho.1 _ _ _ (Option.some.inj h3)
 | map ks l =>
  rw [hk] at e hob
  obtain ⟨blk, es, ck, h1, _, h3, _⟩ := hob
  rw [h1] at e
  cases e
  rw [hb] at h3
  exact ho.2 _ _ (Option.some.inj h3)
 | row ty z l =>
  rw [hk] at e hob
  obtain ⟨_, xs, h1, _⟩ := hob
  rcases h1.2 with ⟨h2, _⟩ | ⟨g, cap, cur, h2, _, h3, _⟩
  ·rw [h2] at e; cases e
  ·rw [h2] at e
   cases e
   rw [hb] at h3
   exact ho.1 _ _ _ (Option.some.inj h3)
 | rowA ty z l =>
  rw [hk] at e hob
  obtain ⟨_, xs, h1, _⟩ := hob
  rcases h1.2 with ⟨h2, _⟩ | ⟨g, cap, cur, h2, _, h3, _⟩
  ·rw [h2] at e; cases e
  ·rw [h2] at e
   cases e
   rw [hb] at h3
   exact ho.1 _ _ _ (Option.some.inj h3)
theorem zdr (ds : Option (List Deferred)) : Oth (.deferred ds) := ⟨fun _ _ _ e => (by cases e), fun _ _ e => (by cases e)⟩
theorem Rel.next (h : Rel Hy X B St w0 Dp s ι a w) (id : Nat) (x : O) (u : Value) (d : Option Nat) (y : A) (v : Value)
  (hb : Below B w w') (hx : ∀ i, i ≠ id → ι' i = ι i) (hu : ι' id = u)
  (hg : (s.o id).gen ≤ x.gen) (hge : (s.o id).gen = x.gen → u = ι id)
  (hh : ∀ b, b < w.heap.size → mb s.o ι id ≠ some b → w'.heap[b]? = w.heap[b]?)
  (hm : ∀ b, mb (s.ob id x).o ι' id = some b → mb s.o ι id = some b ∨ w.heap.size ≤ b)
  (ho : (∀ (v : Value) (t : T), Rt w (Sd B St s.o ι w) v t → Rt w' (Sd B St (s.ob id x).o ι' w') v t) → (∀ (v : Value) (z : A), Ra w (Sd B St s.o ι w) s.o ι v z → Ra w' (Sd B St (s.ob id x).o ι' w') (s.ob id x).o ι' v z) →
   Ob B w' (Sd B St (s.ob id x).o ι' w') (s.ob id x).o ι' u x.k)
  (hv : (∀ (v : Value) (t : T), Rt w (Sd B St s.o ι w) v t → Rt w' (Sd B St (s.ob id x).o ι' w') v t) → (∀ (v : Value) (z : A), Ra w (Sd B St s.o ι w) s.o ι v z → Ra w' (Sd B St (s.ob id x).o ι' w') (s.ob id x).o ι' v z) →
   d ≠ none → Ra w' (Sd B St (s.ob id x).o ι' w') (s.ob id x).o ι' v y) :
  Rel Hy X B St w0 Dp ((s.ob id x).put d y) ι' (a.put d v) w' := by
 have os : ∀ i, i ≠ id → (s.ob id x).o i = s.o i := fun i hi => if_neg hi
 have oi : (s.ob id x).o id = x := if_pos rfl
 have hmo : ∀ i, i ≠ id → mb (s.ob id x).o ι' i = mb s.o ι i := fun i hi => by unfold mb; rw [os i hi, hx i hi]
 have hk : ∀ g, Sd B St s.o ι w g → Sd B St (s.ob id x).o ι' w' g ∧ w'.heap[g]? = w.heap[g]? := fun g hq => by
  refine ⟨⟨hq.1, Nat.lt_of_lt_of_le hq.2.1 hb.size, fun i e => ?_⟩, hh g hq.2.1 (hq.2.2 id)⟩
  by_cases hi : i = id
  ·subst hi
   rcases hm g e with e | e
   ·exact hq.2.2 _ e
   ·exact absurd hq.2.1 (Nat.not_lt.2 e)
  ·rw [hmo i hi] at e
   exact hq.2.2 _ e
 have hgs : ∀ i, (s.o i).gen ≤ ((s.ob id x).o i).gen ∧ ((s.o i).gen = ((s.ob id x).o i).gen → ι' i = ι i) := fun i => by
  by_cases hi : i = id
  ·subst hi
   rw [oi]
   exact ⟨hg, fun e => hu.trans (hge e)⟩
  ·rw [os i hi]
   exact ⟨Nat.le_refl _, fun _ => hx i hi⟩
 have mT : ∀ (v : Value) (t : T), Rt w (Sd B St s.o ι w) v t → Rt w' (Sd B St (s.ob id x).o ι' w') v t := fun v t ht => ht.mono hk
 have mA : ∀ (v : Value) (z : A), Ra w (Sd B St s.o ι w) s.o ι v z → Ra w' (Sd B St (s.ob id x).o ι' w') (s.ob id x).o ι' v z := fun v z hz => hz.mono hk hgs
 have eo : ((s.ob id x).put d y).o = (s.ob id x).o := by unfold S.put; split <;> rfl
 have kept : ∀ (b : Nat) ob, Oth ob → w.heap[b]? = some ob → w'.heap[b]? = some ob := fun b ob ho hb2 => (hh b (Array.getElem?_eq_some_iff.1 hb2).1 (h.oth ho hb2 id)).trans hb2
 refine ⟨h.below.trans hb, Nat.le_trans h.hB hb.size, ?_, ?_, ?_, by cases d <;> exact h.dv, ?_, h.stB, h.hy, ?_, ?_⟩
 ·rw [eo]
  intro i
  by_cases hi : i = id
  ·subst hi
   rw [oi, hu]
   exact ho mT mA
  ·have hob := h.ob i
   rw [os i hi, hx i hi]
   have same : ∀ b, mb s.o ι i = some b → w'.heap[b]? = w.heap[b]? := fun b e => hh b (h.mbB e).2 (fun e2 => hi (h.inj _ _ _ e e2))
   cases hkk : (s.o i).k with
   | none => exact trivial
   | ro l => rw [hkk] at hob; exact mT _ _ hob
   | cells ty l =>
    rw [hkk] at hob
    obtain ⟨blk, cs, h1, h2, h3, h4, h5⟩ := hob
    refine ⟨blk, cs, h1, h2, ?_, h4, fun j y hy => ?_⟩
    ·rw [same blk (by unfold mb; rw [hkk, h1]; rfl)]
     exact h3
    ·obtain ⟨c, hc, hl, hr⟩ := h5 j y hy
     exact ⟨c, hc, hl, mA _ _ hr⟩
   | row ty z l =>
    rw [hkk] at hob
    obtain ⟨h1, xs, h2, h3⟩ := hob
    refine ⟨h1, xs, ⟨h2.1, ?_⟩, fun j y hy => ?_⟩
    ·rcases h2.2 with h4 | ⟨g, cap, cur, hv, hb2, hg2, rest⟩
     ·exact .inl h4
     ·refine .inr ⟨g, cap, cur, hv, hb2, ?_, rest⟩
      rw [same g (by unfold mb; rw [hkk, hv]; rfl)]
      exact hg2
    ·obtain ⟨c, hc, hl, hr⟩ := h3 j y hy
     exact ⟨c, hc, hl, mT _ _ hr⟩
   | rowA ty z l =>
    rw [hkk] at hob
    obtain ⟨h1, xs, h2, h3⟩ := hob
    refine ⟨h1, xs, ⟨h2.1, ?_⟩, fun j y hy => ?_⟩
    ·rcases h2.2 with h4 | ⟨g, cap, cur, hv, hb2, hg2, rest⟩
     ·exact .inl h4
     ·refine .inr ⟨g, cap, cur, hv, hb2, ?_, rest⟩
      rw [same g (by unfold mb; rw [hkk, hv]; rfl)]
      exact hg2
    ·obtain ⟨c, hc, hl, hr⟩ := h3 j y hy
     exact ⟨c, hc, hl, mA _ _ hr⟩
   | map ks l =>
    rw [hkk] at hob
    obtain ⟨blk, es, ck, h1, h2, h3, h4, h5, h6, h7⟩ := hob
    refine ⟨blk, es, ck, h1, h2, ?_, h4, h5, h6, fun j y hy => ?_⟩
    ·rw [same blk (by unfold mb; rw [hkk, h1]; rfl)]
     exact h3
    ·obtain ⟨c, hc, hk2, hl, hr⟩ := h7 j y hy
     exact ⟨c, hc, hk2, hl, mA _ _ hr⟩
 ·rw [eo]
  intro i j b e1 e2
  by_cases hi : i = id
  ·by_cases hj : j = id
   ·rw [hi, hj]
   ·subst hi
    rw [hmo j hj] at e2
    rcases hm b e1 with e | e
    ·exact absurd (h.inj _ _ _ e2 e) hj
    ·exact absurd (h.mbB e2).2 (Nat.not_lt.2 e)
  ·rw [hmo i hi] at e1
   by_cases hj : j = id
   ·subst hj
    rcases hm b e2 with e | e
    ·exact absurd (h.inj _ _ _ e1 e) hi
    ·exact absurd (h.mbB e1).2 (Nat.not_lt.2 e)
   ·rw [hmo j hj] at e2
    exact h.inj _ _ _ e1 e2
 ·rw [eo]
  intro t v1 e
  cases d with
  | none => exact mA _ _ (h.tm t v1 e)
  | some d =>
   by_cases ht : t = d
   ·subst ht
    have : v1 = v := by
     simp only [Act.put, Array.getElem?_setIfInBounds, if_true] at e
     split at e
     ·exact (Option.some.inj e).symm
     ·cases e
    subst this
    rw [show ((s.ob id x).put (some t) y).t t = y from if_pos rfl]
    exact hv mT mA (by simp)
   ·rw [show ((s.ob id x).put (some d) y).t t = s.t t from if_neg ht]
    refine mA _ _ (h.tm t v1 ?_)
    simp only [Act.put, Array.getElem?_setIfInBounds] at e
    rwa [if_neg (fun e2 => ht e2.symm)] at e
 ·cases d with
  | none => exact h.sz
  | some d => exact Array.size_setIfInBounds.trans h.sz
 ·rw [eo]
  obtain ⟨N, L, n1, n2, _⟩ := h.xd
  exact n2 _ _ _ _ _ _ _ _ mT mA hb.size (fun b ob _ => kept b ob) h.x
 ·obtain ⟨N, L, n1, n2, n3, n4, n5⟩ := h.xd
  exact ⟨N, L, Nat.le_trans n1 hb.size, n2, by cases d <;> exact n3, n4, fun D hD => ⟨(n5 D hD).1, (n5 D hD).2.1, kept D _ (zdr _) (n5 D hD).2.2⟩⟩
theorem S.ob_self (s : S) (id : Nat) : s.ob id (s.o id) = s := by
 unfold S.ob
 congr 1
 funext j
 split
 ·rename_i e
  rw [e]
 ·rfl
theorem Rel.pure (h : Rel Hy X B St w0 Dp s ι a w) (d : Option Nat) (y : A) (v : Value) (hv : d ≠ none → Ra w (Sd B St s.o ι w) s.o ι v y) : Rel Hy X B St w0 Dp (s.put d y) ι (a.put d v) w := by
 have := Rel.next (w' := w) (ι' := ι) h 0 (s.o 0) (ι 0) d y v (Below.refl _ _) (fun _ _ => rfl) rfl (Nat.le_refl _) (fun _ => rfl) (fun _ _ _ => rfl) (fun b e => by rw [S.ob_self] at e; exact .inl e)
  (fun mT mA => by rw [S.ob_self]; exact h.ob 0) (fun mT mA hd => by rw [S.ob_self]; exact hv hd)
 rwa [S.ob_self] at this
theorem Rel.keep (h : Rel Hy X B St w0 Dp s ι a w) (hb : Below w.heap.size w w') (d : Option Nat) (y : A) (v : Value) (hv : d ≠ none → Ra w' (Sd B St s.o ι w') s.o ι v y) : Rel Hy X B St w0 Dp (s.put d y) ι (a.put d v) w' := by
 have := Rel.next (w' := w') (ι' := ι) h 0 (s.o 0) (ι 0) d y v (hb.mono h.hB) (fun _ _ => rfl) rfl (Nat.le_refl _) (fun _ => rfl) (fun b hl _ => hb.block b hl) (fun b e => by rw [S.ob_self] at e; exact .inl e)
  (fun mT mA => by
   rw [S.ob_self] at mT mA ⊢
   have hob := h.ob 0
   have same : ∀ b, mb s.o ι 0 = some b → w'.heap[b]? = w.heap[b]? := fun b e => hb.block b (h.mbB e).2
   cases hkk : (s.o 0).k with
   | none => exact trivial
   | ro l => rw [hkk] at hob; exact mT _ _ hob
   | cells ty l =>
    rw [hkk] at hob
    obtain ⟨blk, cs, h1, h2, h3, h4, h5⟩ := hob
    refine ⟨blk, cs, h1, h2, ?_, h4, fun j y hy => ?_⟩
    ·rw [same blk (by unfold mb; rw [hkk, h1]; rfl)]
     exact h3
    ·obtain ⟨c, hc, hl, hr⟩ := h5 j y hy
     exact ⟨c, hc, hl, mA _ _ hr⟩
   | row ty z l =>
    rw [hkk] at hob
    obtain ⟨h1, xs, h2, h3⟩ := hob
    refine ⟨h1, xs, ⟨h2.1, ?_⟩, fun j y hy => ?_⟩
    ·rcases h2.2 with h4 | ⟨g, cap, cur, hv, hb2, hg2, rest⟩
     ·exact .inl h4
     ·refine .inr ⟨g, cap, cur, hv, hb2, ?_, rest⟩
      rw [same g (by unfold mb; rw [hkk, hv]; rfl)]
      exact hg2
    ·obtain ⟨c, hc, hl, hr⟩ := h3 j y hy
     exact ⟨c, hc, hl, mT _ _ hr⟩
   | rowA ty z l =>
    rw [hkk] at hob
    obtain ⟨h1, xs, h2, h3⟩ := hob
    refine ⟨h1, xs, ⟨h2.1, ?_⟩, fun j y hy => ?_⟩
    ·rcases h2.2 with h4 | ⟨g, cap, cur, hv, hb2, hg2, rest⟩
     ·exact .inl h4
     ·refine .inr ⟨g, cap, cur, hv, hb2, ?_, rest⟩
      rw [same g (by unfold mb; rw [hkk, hv]; rfl)]
      exact hg2
    ·obtain ⟨c, hc, hl, hr⟩ := h3 j y hy
     exact ⟨c, hc, hl, mA _ _ hr⟩
   | map ks l =>
    rw [hkk] at hob
    obtain ⟨blk, es, ck, h1, h2, h3, h4, h5, h6, h7⟩ := hob
    refine ⟨blk, es, ck, h1, h2, ?_, h4, h5, h6, fun j y hy => ?_⟩
    ·rw [same blk (by unfold mb; rw [hkk, h1]; rfl)]
     exact h3
    ·obtain ⟨c, hc, hk2, hl, hr⟩ := h7 j y hy
     exact ⟨c, hc, hk2, hl, mA _ _ hr⟩)
  (fun mT mA hd => by rw [S.ob_self]; exact hv hd)
 rwa [S.ob_self] at this
end
end Go.Proofs.YtbhoeanfnbkenaaGreatDoor
namespace Go.Proofs.YtbhoeanfnbkenaaGreatDoor
open Go.RowKit
def zaN : Value → A
 | .bool x => .t (.b x)
 | .int k n => .t (.i k n)
 | .string x => .t (.s x)
 | .slice none 0 0 => .nilS
 | .pointer none => .t .np
 | .nilFunc => .t .nfn
 | .map none => .t .nmp
 | .nilIface => .t .nif
 | _ => .junk
def zd4 : Value → A
 | .agg cs => if (cs.toList.map zaN).all A.leaf = true then .ag (cs.toList.map zaN) else .junk
 | v => zaN v
def S.ev (s : S) : Operand → A
 | .tmp t => if t < s.n then s.t t else .junk
 | .const v => zd4 v
 | .func f => .fn f [] []
 | _ => .junk
inductive TK where
 | bool | int (k : IntKind) | string
 | slice (e : TypeId)
 | array (n : Nat) (e : TypeId)
 | struct (fs : List (Nat × TypeId))
 | map (k e : TypeId)
 | iface
 | other
structure TD where
 size : Nat
 bytes : Nat
 agg : Bool
 k : TK
 zero : List Value
 eq : Bool
def TK.ok (d : TypeDesc) : TK → Prop
 | .bool => d = .bool
 | .int k => d = .int k
 | .string => d = .string
 | .slice e => d = .slice e
 | .array n e => d = .array n e
 | .struct fs => ∃ F, d = .struct F ∧ F.toList.map (fun f => (f.offset, f.type)) = fs
 | .map k e => d = .map k e
 | .iface => ∃ ms, d = .interface ms
 | .other => True
def TK.conc : TK → Bool
 | .iface => false
 | .other => false
 | _ => true
theorem TK.conc_ok {k : TK} {d : TypeDesc} (h : k.conc = true) (hd : k.ok d) (ms : Array (String × TypeId)) : d ≠ .interface ms := by
 cases k <;> simp [TK.conc, TK.ok] at h hd <;> first | (rw [hd]; simp) | (obtain ⟨F, rfl, _⟩ := hd; simp)
def agT : List A → Option (List T)
 | [] => some []
 | .t x :: l => if x.leaf = true then (agT l).map (x :: ·) else none
 | _ => none
def toT : A → Option T
 | .t x => some x
 | .ag l => (agT l).map T.ag
 | _ => none
structure TdOk (P : Program) (t : TypeId) (d : TD) : Prop where
 info : ∃ i z, P.info? t = some i ∧ i.size = d.size ∧ i.bytes = d.bytes ∧ i.zero = some z ∧ z.cells.toList = d.zero
 desc : ∃ u, P.underlying t = some u ∧ d.k.ok u ∧ (match u with | .struct _ | .array _ _ => true | _ => false) = d.agg
 eqs : d.eq = true → P.stoodInHeld t = false ∧ ∀ F, P.underlying t = some (.struct F) → ∀ f ∈ F.toList, f.name ≠ "_"
abbrev Tys := TypeId → Option TD
def Tys.ok (P : Program) (tt : Tys) : Prop := ∀ t d, tt t = some d → TdOk P t d
def zF {α : Type} (x : Option α) (K : α → Prop) : Prop := match x with
 | some y => K y
 | none => False
theorem zE {α : Type} {x : Option α} {K : α → Prop} (h : zF x K) : ∃ y, x = some y ∧ K y := by
 cases x with
 | none => exact h.elim
 | some y => exact ⟨y, rfl, h⟩
def zc0 (agg : Bool) (l : List A) (off n : Nat) : Option A := match agg with
 | true => if off + n ≤ l.length then some (.ag ((l.drop off).take n)) else none
 | false => l[off]?
def zc1 (agg : Bool) (l : List T) (off n : Nat) : Option A := match agg with
 | true => if off + n ≤ l.length then some (.t (.ag ((l.drop off).take n))) else none
 | false => (l[off]?).map .t
theorem zds {k : IntKind} {n : Int} (h : inR k n) : k.wrap n = n := by
 cases k <;> simp only [inR] at h <;> simp [IntKind.wrap, IntKind.bits, IntKind.signed] <;> omega
def zbO (op : BinOp) (k : IntKind) (a b : Int) : Int := k.wrap (match op with
 | .and => (BitVec.ofInt k.bits a &&& BitVec.ofInt k.bits b).toNat
 | .or => (BitVec.ofInt k.bits a ||| BitVec.ofInt k.bits b).toNat
 | .xor => (BitVec.ofInt k.bits a ^^^ BitVec.ofInt k.bits b).toNat
 | _ => (BitVec.ofInt k.bits a &&& ~~~BitVec.ofInt k.bits b).toNat)
def kyI (k : IntKind) : List A → Option (List Int)
 | [] => some []
 | .t (.i k' n) :: l => if k' = k then (kyI k l).map (n :: ·) else none
 | _ => none
def kyG : List A → Option Ky
 | .t (.i k n) :: l => (kyI k (.t (.i k n) :: l)).map (.a k)
 | _ => none
def kyA : A → Option Ky
 | .t (.i k n) => some (.i k n)
 | .t (.s x) => some (.s x)
 | .t (.ag l) => kyG (l.map .t)
 | .ag l => kyG l
 | _ => none
def eqF : TK → T → T → Option Bool
 | .int _, .i k a, .i k' b => if k = k' then some (decide (a = b)) else none
 | .string, .s a, .s b => some (decide (a = b))
 | .bool, .b a, .b b => some (a == b)
 | _, _, _ => none
def agA : A → Option (List A)
 | .t (.ag l) => some (l.map .t)
 | .ag l => some l
 | _ => none
def tF : A → Option T
 | .t x => some x
 | _ => none
def zcF (tt : Tys) (l m : List A) : List (Nat × TypeId) → Option Bool
 | [] => some true
 | p :: fs => (tt p.2).bind fun d => if d.agg = false then ((l[p.1]?).bind tF).bind fun x => ((m[p.1]?).bind tF).bind fun y => (eqF d.k x y).bind fun b => (zcF tt l m fs).map (b && ·) else none
def zcn (tt : Tys) (op : BinOp) (ty : TypeId) (x y : A) (K : A → Prop) : Prop := zF (tt ty) fun d => match d.k with
 | .array n e => zF (tt e) fun de => match de.k with
  | .int q => (de.size = 1 ∧ de.agg = false) ∧ zF (kyA x) fun a => zF (kyA y) fun b => match a, b with
   | .a k l, .a k' m => (k = q ∧ k' = q ∧ l.length = n ∧ m.length = n) ∧ match op with
    | .eql => K (.t (.b (decide (l = m))))
    | .neq => K (.t (.b (!decide (l = m))))
    | _ => False
   | _, _ => False
  | _ => False
 | .struct fs => d.eq = true ∧ zF (agA x) fun l => zF (agA y) fun m => zF (zcF tt l m fs) fun b => match op with
  | .eql => K (.t (.b b))
  | .neq => K (.t (.b (!b)))
  | _ => False
 | _ => False
def zb7 (tt : Tys) (op : BinOp) (ty : TypeId) (x y : A) (K : A → Prop) : Prop := match x, y with
  | .t (.i k a), .t (.i k' b) => match op with
   | .shl => (0 ≤ b ∧ b ≤ k.bits) ∧ inR k (a * 2 ^ b.toNat) ∧ K (.t (.i k (a * 2 ^ b.toNat)))
   | .shr => (0 ≤ b ∧ b ≤ k.bits) ∧ K (.t (.i k (a.fdiv (2 ^ b.toNat))))
   | op => k = k' ∧ match op with
    | .add => inR k (a + b) ∧ K (.t (.i k (a + b)))
    | .sub => inR k (a - b) ∧ K (.t (.i k (a - b)))
    | .mul => inR k (a * b) ∧ K (.t (.i k (a * b)))
    | .quo => b ≠ 0 ∧ inR k (a.tdiv b) ∧ K (.t (.i k (a.tdiv b)))
    | .rem => b ≠ 0 ∧ K (.t (.i k (a.tmod b)))
    | .eql => K (.t (.b (decide (a = b))))
    | .neq => K (.t (.b (!decide (a = b))))
    | .lss => K (.t (.b (decide (a < b))))
    | .leq => K (.t (.b (decide (a ≤ b))))
    | .gtr => K (.t (.b (decide (b < a))))
    | .geq => K (.t (.b (decide (b ≤ a))))
    | .and => K (.t (.i k (zbO .and k a b)))
    | .or => K (.t (.i k (zbO .or k a b)))
    | .xor => K (.t (.i k (zbO .xor k a b)))
    | .andNot => K (.t (.i k (zbO .andNot k a b)))
    | _ => False
  | .t (.s a), .t (.s b) => match op with
    | .eql => K (.t (.b (decide (a = b))))
    | .neq => K (.t (.b (!decide (a = b))))
    | .add => a.size + b.size ≤ 9223372036854775807 ∧ K (.t (.s (a ++ b)))
    | .lss => K (.t (.b (Op.bytesLess a.toList b.toList)))
    | .leq => K (.t (.b (Op.bytesLess a.toList b.toList || decide (a = b))))
    | .gtr => K (.t (.b (!(Op.bytesLess a.toList b.toList || decide (a = b)))))
    | .geq => K (.t (.b (!Op.bytesLess a.toList b.toList)))
    | _ => False
  | .t (.b a), .t (.b b) => zF (tt ty) fun d => d.k = .bool ∧ match op with
    | .eql => K (.t (.b (a == b)))
    | .neq => K (.t (.b (a != b)))
    | _ => False
  | x, y => zcn tt op ty x y K
def biK (tt : Tys) (b : Builtin) (args : List A) (tys : List TypeId) (s : S) (K : A → Prop) : Prop := match b, args, tys with
 | .len, [x], [ty] => zF (tt ty) fun d => match d.k, x with
  | .string, .t (.s b) => K (.t (.i .i64 (b.size : Int)))
  | .slice _, .t (.sl l) => K (.t (.i .i64 (l.length : Int)))
  | .slice _, .nilS => K (.t (.i .i64 0))
  | .slice _, .row id g => g = (s.o id).gen ∧ match (s.o id).k with
   | .row _ _ l => K (.t (.i .i64 (l.length : Int)))
   | .rowA _ _ l => K (.t (.i .i64 (l.length : Int)))
   | .ro l => K (.t (.i .i64 (l.length : Int)))
   | _ => False
  | _, _ => False
 | .cap, [x], [ty] => zF (tt ty) fun d => match d.k, x with
  | .slice _, .nilS => K (.t (.i .i64 0))
  | _, _ => False
 | .max, [x, y], _ => match x, y with
  | .t (.i k a), .t (.i k' b) => k = k' ∧ K (.t (.i k (if a < b then b else a)))
  | _, _ => False
 | .min, [x, y], _ => match x, y with
  | .t (.i k a), .t (.i k' b) => k = k' ∧ K (.t (.i k (if b < a then b else a)))
  | _, _ => False
 | _, _, _ => False
def zfU : Operand → Bool
 | .const .nilIface => true
 | _ => false
def zc2 (tt : Tys) (op : BinOp) (ty : TypeId) (x : A) (K : A → Prop) : Prop := zF (tt ty) fun d => match d.k, x, op with
 | .iface, .t (.ifc _ _), .eql => K (.t (.b false))
 | .iface, .t (.ifc _ _), .neq => K (.t (.b true))
 | .iface, .t .nif, .eql => K (.t (.b true))
 | .iface, .t .nif, .neq => K (.t (.b false))
 | _, _, _ => False
def Pk (tt : Tys) (op : Op) (s : S) (K : A → Prop) : Prop := match op with
 | .move x => K (s.ev x)
 | .assign x => K (s.ev x)
 | .pick c x y => match s.ev c with
  | .t (.b q) => (q = true → K (s.ev x)) ∧ (q = false → K (s.ev y))
  | _ => False
 | .load ty x => zF (tt ty) fun d => match s.ev x with
  | .ptr id g off => g = (s.o id).gen ∧ match (s.o id).k with
   | .cells _ l => zF (zc0 d.agg l off d.size) K
   | _ => False
  | .t (.cp l) => zF (zc1 d.agg l 0 d.size) K
  | .rp id g z i off => g = (s.o id).gen ∧ match (s.o id).k with
   | .row _ z' l => z = z' ∧ zF (l[i]?) fun e => zF (zc1 d.agg e off d.size) K
   | .rowA _ z' l => z = z' ∧ zF (l[i]?) fun e => zF (zc0 d.agg e off d.size) K
   | _ => False
  | _ => False
 | .fieldAddr st x f => zF (tt st) fun d => match d.k with
  | .struct fs => zF (fs[f]?) fun p => zF (tt p.2) fun e => e.size ≠ 0 ∧ match s.ev x with
   | .ptr id g off => g = (s.o id).gen ∧ (match (s.o id).k with | .cells _ _ => True | _ => False) ∧ K (.ptr id g (off + p.1))
   | .t (.cp l) => p.1 ≤ l.length ∧ K (.t (.cp (l.drop p.1)))
   | .rp id g z i off => g = (s.o id).gen ∧ (match (s.o id).k with | .row _ _ _ => True | .rowA _ _ _ => True | _ => False) ∧ K (.rp id g z i (off + p.1))
   | _ => False
  | _ => False
 | .field st x f => zF (tt st) fun d => match d.k with
  | .struct fs => zF (fs[f]?) fun p => zF (tt p.2) fun e => match s.ev x with
   | .ag l => zF (zc0 e.agg l p.1 e.size) K
   | .t (.ag l) => zF (zc1 e.agg l p.1 e.size) K
   | _ => False
  | _ => False
 | .indexAddr ty x ix => zF (tt ty) fun d => match d.k with
  | .slice e => zF (tt e) fun de => match s.ev ix with
   | .t (.i _ n) => 0 ≤ n ∧ match s.ev x with
    | .t (.sl l) => zF (l[n.toNat]?) fun c => c.length = de.size ∧ K (.t (.cp c))
    | .row id g => g = (s.o id).gen ∧ match (s.o id).k with
     | .row _ z l => n.toNat < l.length ∧ z = de.size ∧ K (.rp id g z n.toNat 0)
     | .rowA _ z l => n.toNat < l.length ∧ z = de.size ∧ K (.rp id g z n.toNat 0)
     | .ro l => zF (l[n.toNat]?) fun c => c.length = de.size ∧ K (.t (.cp c))
     | _ => False
    | _ => False
   | _ => False
  | .array m e => zF (tt e) fun de => match s.ev ix with
   | .t (.i _ n) => (0 ≤ n ∧ n < m) ∧ match s.ev x with
    | .ptr id g off => g = (s.o id).gen ∧ (match (s.o id).k with | .cells _ _ => True | _ => False) ∧ K (.ptr id g (off + n.toNat * de.size))
    | .t (.cp l) => n.toNat * de.size ≤ l.length ∧ K (.t (.cp (l.drop (n.toNat * de.size))))
    | .rp id g z i off => g = (s.o id).gen ∧ (match (s.o id).k with | .row _ _ _ => True | .rowA _ _ _ => True | _ => False) ∧ K (.rp id g z i (off + n.toNat * de.size))
    | _ => False
   | _ => False
  | _ => False
 | .index ty x ix => zF (tt ty) fun d => match d.k with
  | .string => match s.ev x, s.ev ix with
   | .t (.s b), .t (.i _ n) => 0 ≤ n ∧ zF (b.data.toList[n.toNat]?) fun c => K (.t (.i .u8 (c.toNat : Int)))
   | _, _ => False
  | _ => False
 | .binOp op ty x y _ => match zfU y with
  | true => zc2 tt op ty (s.ev x) K
  | false => zb7 tt op ty (s.ev x) (s.ev y) K
 | .makeInterface ty x => zF (tt ty) fun d => d.k.conc = true ∧ zF (toT (s.ev x)) fun y => K (.t (.ifc ty y))
 | .typeAssert x _ asserted ok => zF (tt asserted) fun d => d.k.conc = true ∧ match ok, s.ev x with
  | false, .t (.ifc ty y) => ty = asserted ∧ K (.t y)
  | _, _ => False
 | .unOp .not _ x => match s.ev x with
  | .t (.b q) => K (.t (.b (!q)))
  | _ => False
 | .unOp .neg _ x => match s.ev x with
  | .t (.i k n) => K (.t (.i k (k.wrap (0 - n))))
  | _ => False
 | .extract x i => match s.ev x with
  | .tup l => zF (l[i]?) K
  | _ => False
 | .convert src dst x => zF (tt src) fun d => zF (tt dst) fun e => match d.k, e.k, s.ev x with
  | .int k0, .int k, .t (.i k' n) => k0 = k' ∧ inR k n ∧ K (.t (.i k n))
  | _, _, _ => False
 | .slice ty x none (some hi) none => zF (tt ty) fun d => match d.k with
  | .slice e => zF (tt e) fun _ => match s.ev hi with
   | .t (.i _ n) => match s.ev x with
    | .t (.sl l) => (0 ≤ n ∧ n.toNat ≤ l.length) ∧ K (.t (.sl (l.take n.toNat)))
    | _ => False
   | _ => False
  | _ => False
 | .makeFunc f first cap => match f with
  | .func f => K (.fn f (first.toList.map s.ev) (cap.toList.map s.ev))
  | _ => False
 | .nilCheck x => match s.ev x with
  | .ptr id g off => g = (s.o id).gen ∧ K (.ptr id g off)
  | .t (.cp l) => K (.t (.cp l))
  | .rp id g z i off => g = (s.o id).gen ∧ K (.rp id g z i off)
  | .fn f l m => K (.fn f l m)
  | _ => False
 | .call c => match c.callee with
  | .builtin b => biK tt b (c.args.toList.map s.ev) c.argTypes.toList s K
  | _ => False
 | _ => False
section
variable {P : Program} {tt : Tys} {Hy : World → Prop} {X : World → (Nat → Prop) → (Nat → O) → (Nat → Value) → Prop} {B : Nat} {St : Nat → Prop} {Dp : List Deferred → Prop} {w0 w : World} {s : S} {ι : Nat → Value} {a : Act}
theorem zcG (D : Nat → Prop) (o : Nat → O) (v : Value) : Ra w D o ι v (zaN v) := by
 unfold zaN
 split <;> first | exact .t (.b _) | exact .t (.i _ _) | exact .t (.s _) | exact .nilS | exact .t .np | exact .t .nfn | exact .t .nmp | exact .t .nif | exact .junk
theorem zm5 (D : Nat → Prop) (o : Nat → O) (v : Value) : Ra w D o ι v (zd4 v) := by
 unfold zd4
 split
 ·rename_i cs
  split
  ·rename_i hl
   refine .ag cs _ (fun j => cs.getD j undef) (by simp) (fun j hj => ?_) (fun j x hx => ?_) (fun j x hx => ?_)
   ·simp at hj
    simp [hj]
   ·exact List.all_eq_true.1 hl x (List.mem_of_getElem? hx)
   ·rw [List.getElem?_map] at hx
    obtain ⟨v, hv, rfl⟩ := Option.map_eq_some_iff.1 hx
    have : cs[j]? = some v := by simpa using hv
    rw [show cs.getD j undef = v by simp [Array.getD_eq_getD_getElem?, this]]
    exact zcG D o v
  ·exact .junk
 ·exact zcG D o v
theorem Rel.ev (h : Rel Hy X B St w0 Dp s ι a w) (x : Operand) : Ra w (Sd B St s.o ι w) s.o ι (a.eval x) (s.ev x) := by
 cases x with
 | tmp t =>
  show Ra w _ _ _ (a.tmps.getD t undef) (if t < s.n then s.t t else .junk)
  split
  ·rename_i ht
   have hl : t < a.tmps.size := by rw [h.sz]; exact ht
   exact h.tm t _ (by simp [Array.getD_eq_getD_getElem?, hl])
  ·exact .junk
 | const v => exact zm5 _ _ v
 | global g => exact .junk
 | func f => exact .fn f #[] #[] [] [] (fun _ => undef) (fun _ => undef) rfl (fun j hj => absurd hj (Nat.not_lt_zero j)) (fun j x hx => (by simp at hx)) rfl (fun j hj => absurd hj (Nat.not_lt_zero j)) (fun j x hx => (by simp at hx))
theorem Sd.lt {g : Nat} {o : Nat → O} (h : Sd B St o ι w g) : g < w.heap.size := h.2.1
theorem zbW (x : Sem Value) {v : Value} {w' : World} (h : x.run P w = .ok v w') : ((do pure (.value (← x)) : Sem Next)).run P w = .ok (.value v) w' := by
 rw [Sem.run_bind, h]
 rfl
theorem zd5 (x : Sem Unit) {w' : World} (h : x.run P w = .ok () w') : ((do x; pure .skip : Sem Next)).run P w = .ok .skip w' := by
 rw [Sem.run_bind, h]
 rfl
theorem zdt {t : TypeId} {i : TypeInfo} (h : P.info? t = some i) : (typeInfo t).run P w = .ok i w := by simp [typeInfo, h]
theorem TdOk.size {t : TypeId} {d : TD} (h : TdOk P t d) : (sizeOf t).run P w = .ok d.size w := by
 obtain ⟨i, z, h1, h2, _⟩ := h.info
 simp [sizeOf, zdt h1, h2]
theorem TdOk.isAgg {t : TypeId} {d : TD} (h : TdOk P t d) : (isAgg t).run P w = .ok d.agg w := by
 obtain ⟨u, h1, _, h2⟩ := h.desc
 unfold Go.isAgg
 rw [Sem.run_bind, run_underlying h1 w]
 simp only [Result.andThen]
 split at h2 <;> simp_all
theorem TdOk.und {t : TypeId} {d : TD} (h : TdOk P t d) : ∃ u, (∀ w : World, (underlying t).run P w = .ok u w) ∧ d.k.ok u := by
 obtain ⟨u, h1, h2, _⟩ := h.desc
 exact ⟨u, fun w => run_underlying h1 w, h2⟩
theorem zeS {t : TypeId} {d : TD} (h : TdOk P t d) (blk off : Nat) (c : Nat → Value) (hc : ∀ j, j < (if d.agg then d.size else 1) → w.cell? ⟨blk, off + j, none⟩ = some (c j)) :
  (loadVar t ⟨blk, off, none⟩).run P w = .ok (if d.agg then .agg ((List.range d.size).map c).toArray else c 0) w := by
 unfold loadVar
 rw [Sem.run_bind, h.isAgg]
 simp only [Result.andThen]
 cases hd : d.agg
 ·rw [hd] at hc
  have := hc 0 (by simp)
  simp only [Nat.add_zero] at this
  simp [run_load, this]
 ·rw [hd] at hc
  simp only [if_true] at hc ⊢
  rw [Sem.run_bind, h.size]
  simp only [Result.andThen]
  rw [Sem.run_bind]
  have := run_loadCells_list (P := P) w ⟨blk, off, none⟩ ((List.range d.size).map c) (fun j v hv => by
   rw [List.getElem?_map] at hv
   obtain ⟨k, hk, rfl⟩ := Option.map_eq_some_iff.1 hv
   have hk2 := List.getElem?_eq_some_iff.1 hk
   simp at hk2
   obtain ⟨hl, rfl⟩ := hk2
   rw [Addr.add_mid]
   exact hc j hl)
  simp only [List.length_map, List.length_range] at this
  rw [this]
  rfl
end
end Go.Proofs.YtbhoeanfnbkenaaGreatDoor
namespace Go.Proofs.YtbhoeanfnbkenaaGreatDoor
open Go.RowKit
section
variable {P : Program} {tt : Tys} {Hy : World → Prop} {X : World → (Nat → Prop) → (Nat → O) → (Nat → Value) → Prop} {B : Nat} {St : Nat → Prop} {Dp : List Deferred → Prop} {w0 w : World} {s : S} {ι : Nat → Value} {a : Act}
def Does (P : Program) (B : Nat) (St : Nat → Prop) (s : S) (ι : Nat → Value) (w : World) (K : A → Prop) (x : Sem Value) : Prop := ∃ v y, x.run P w = .ok v w ∧ Ra w (Sd B St s.o ι w) s.o ι v y ∧ K y
theorem Does.of {K : A → Prop} {x : Sem Value} {v : Value} {y : A} (h1 : x.run P w = .ok v w) (h2 : Ra w (Sd B St s.o ι w) s.o ι v y) (h3 : K y) : Does P B St s ι w K x := ⟨v, y, h1, h2, h3⟩
theorem Ra.dat {D : Nat → Prop} {o : Nat → O} {v : Value} {x : T} (h : Ra w D o ι v (.t x)) : Rt w D v x := by
 cases h with
 | t h => exact h
theorem Ra.int {D : Nat → Prop} {o : Nat → O} {v : Value} {k : IntKind} {n : Int} (h : Ra w D o ι v (.t (.i k n))) : v = .int k n := by
 cases h.dat; rfl
theorem Ra.bool {D : Nat → Prop} {o : Nat → O} {v : Value} {q : Bool} (h : Ra w D o ι v (.t (.b q))) : v = .bool q := by
 cases h.dat; rfl
theorem Ra.str {D : Nat → Prop} {o : Nat → O} {v : Value} {q : ByteArray} (h : Ra w D o ι v (.t (.s q))) : v = .string q := by
 cases h.dat; rfl
theorem Ra.nil_get {D : Nat → Prop} {o : Nat → O} {v : Value} (h : Ra w D o ι v .nilS) : v = .slice none 0 0 := by
 cases h; rfl
theorem Ra.ep_get {D : Nat → Prop} {o : Nat → O} {v : Value} {l : List T} (h : Ra w D o ι v (.t (.cp l))) : ∃ blk off, v = .pointer (some ⟨blk, off, none⟩) := by
 cases h.dat; exact ⟨_, _, rfl⟩
theorem Ra.fn_get {D : Nat → Prop} {o : Nat → O} {v : Value} {f : FuncId} {l m : List A} (h : Ra w D o ι v (.fn f l m)) : ∃ cs ds, v = .func (.func f) cs ds ∧ (cs.size = l.length ∧ ∀ (j : Nat) x, l[j]? = some x → ∃ c, cs[j]? = some c ∧ Ra w D o ι c x) ∧ (ds.size = m.length ∧ ∀ (j : Nat) x, m[j]? = some x → ∃ c, ds[j]? = some c ∧ Ra w D o ι c x) := by
 cases h with
 | fn f cs ds l m c d hz hc h kz kc k => exact ⟨cs, ds, rfl, ⟨hz, fun j x hx => ⟨c j, hc j (List.getElem?_eq_some_iff.1 hx).1, h j x hx⟩⟩, ⟨kz, fun j x hx => ⟨d j, kc j (List.getElem?_eq_some_iff.1 hx).1, k j x hx⟩⟩⟩
theorem Ra.ag_get {D : Nat → Prop} {o : Nat → O} {v : Value} {l : List A} (h : Ra w D o ι v (.ag l)) : ∃ cs, v = .agg cs ∧ cs.size = l.length ∧ ∀ (j : Nat) x, l[j]? = some x → ∃ c, cs[j]? = some c ∧ x.leaf = true ∧ Ra w D o ι c x := by
 cases h with
 | ag cs l c hz hc hl h => exact ⟨cs, rfl, hz, fun j x hx => ⟨c j, hc j (List.getElem?_eq_some_iff.1 hx).1, hl j x hx, h j x hx⟩⟩
theorem Rt.ag_get {D : Nat → Prop} {v : Value} {l : List T} (h : Rt w D v (.ag l)) : ∃ cs, v = .agg cs ∧ cs.size = l.length ∧ ∀ (j : Nat) x, l[j]? = some x → ∃ c, cs[j]? = some c ∧ x.leaf = true ∧ Rt w D c x := by
 cases h with
 | ag cs l c hz hc hl h => exact ⟨cs, rfl, hz, fun j x hx => ⟨c j, hc j (List.getElem?_eq_some_iff.1 hx).1, hl j x hx, h j x hx⟩⟩
theorem Ra.tup_get {D : Nat → Prop} {o : Nat → O} {v : Value} {l : List A} (h : Ra w D o ι v (.tup l)) : ∃ cs, v = .tuple cs ∧ cs.size = l.length ∧ ∀ (j : Nat) x, l[j]? = some x → ∃ c, cs[j]? = some c ∧ Ra w D o ι c x := by
 cases h with
 | tup cs l c hz hc h => exact ⟨cs, rfl, hz, fun j x hx => ⟨c j, hc j (List.getElem?_eq_some_iff.1 hx).1, h j x hx⟩⟩
theorem Ra.ptr_get {D : Nat → Prop} {o : Nat → O} {v : Value} {id g off : Nat} (h : Ra w D o ι v (.ptr id g off)) (e : g = (o id).gen) : ∃ blk, ι id = .pointer (some ⟨blk, 0, none⟩) ∧ v = .pointer (some ⟨blk, off, none⟩) := by
 cases h with
 | ptr _ h _ => exact h e
theorem Ra.row_get {D : Nat → Prop} {o : Nat → O} {v : Value} {id g : Nat} (h : Ra w D o ι v (.row id g)) (e : g = (o id).gen) : v = ι id := by
 cases h with
 | row _ h _ => exact h e
theorem Ra.rp_get {D : Nat → Prop} {o : Nat → O} {v : Value} {id g z i off : Nat} (h : Ra w D o ι v (.rp id g z i off)) (e : g = (o id).gen) : ∃ blk n cap, ι id = .slice (some ⟨blk, 0, none⟩) n cap ∧ v = .pointer (some ⟨blk, i * z + off, none⟩) := by
 cases h with
 | rp _ h => exact h e
theorem zfV {agg : Bool} {l : List A} {off n : Nat} {y : A} {cs : Array Value} (h : zc0 agg l off n = some y) (D : Nat → Prop) (o : Nat → O)
  (hc : ∀ (j : Nat) x, l[j]? = some x → ∃ c, cs[j]? = some c ∧ x.leaf = true ∧ Ra w D o ι c x) :
  (∀ j, j < (if agg then n else 1) → (cs[off + j]?).isSome = true) ∧ ∀ c : Nat → Value, (∀ j, j < (if agg then n else 1) → cs[off + j]? = some (c j)) → Ra w D o ι (if agg then .agg ((List.range n).map c).toArray else c 0) y := by
 cases agg
 ·simp only [zc0] at h
  obtain ⟨c, h1, h2, h3⟩ := hc off y h
  refine ⟨fun j hj => ?_, fun c' hc' => ?_⟩
  ·obtain rfl : j = 0 := by simpa using hj
   rw [Nat.add_zero, h1]; rfl
  ·have := hc' 0 (by simp)
   rw [Nat.add_zero, h1] at this
   cases this
   exact h3
 ·simp only [zc0] at h
  split at h
  ·rename_i hle
   cases h
   refine ⟨fun j hj => ?_, fun c' hc' => ?_⟩
   ·simp only [if_true] at hj
    have hl : off + j < l.length := by omega
    obtain ⟨c, h1, _⟩ := hc (off + j) l[off + j] (List.getElem?_eq_getElem hl)
    rw [h1]; rfl
   ·simp only [if_true] at hc' ⊢
    have get : ∀ (j : Nat) x, ((l.drop off).take n)[j]? = some x → j < n ∧ l[off + j]? = some x := fun j x hx => by
     rw [List.getElem?_take] at hx
     split at hx
     ·rename_i hj
      rw [List.getElem?_drop] at hx
      exact ⟨hj, hx⟩
     ·cases hx
    refine .ag _ _ c' ?_ (fun j hj => ?_) (fun j x hx => ?_) (fun j x hx => ?_)
    ·simp; omega
    ·have : j < n := by simp at hj; omega
     simp [this]
    ·obtain ⟨_, hx⟩ := get j x hx
     obtain ⟨c, _, h2, _⟩ := hc _ x hx
     exact h2
    ·obtain ⟨hj, hx⟩ := get j x hx
     obtain ⟨c, h1, _, h3⟩ := hc _ x hx
     rw [hc' j hj] at h1
     cases h1
     exact h3
  ·cases h
theorem zfW {agg : Bool} {l : List T} {off n : Nat} {y : A} (h : zc1 agg l off n = some y) (D : Nat → Prop) (o : Nat → O) (c : Nat → Value)
  (hc : ∀ (j : Nat) x, l[j]? = some x → x.leaf = true ∧ Rt w D (c j) x) :
  (∀ j, j < (if agg then n else 1) → off + j < l.length) ∧ Ra w D o ι (if agg then .agg ((List.range n).map fun j => c (off + j)).toArray else c off) y := by
 cases agg
 ·simp only [zc1] at h
  obtain ⟨x, hx, rfl⟩ := Option.map_eq_some_iff.1 h
  have hl := (List.getElem?_eq_some_iff.1 hx).1
  refine ⟨fun j hj => ?_, .t (hc off x hx).2⟩
  obtain rfl : j = 0 := by simpa using hj
  exact hl
 ·simp only [zc1] at h
  split at h
  ·rename_i hle
   cases h
   have get : ∀ (j : Nat) x, ((l.drop off).take n)[j]? = some x → j < n ∧ l[off + j]? = some x := fun j x hx => by
    rw [List.getElem?_take] at hx
    split at hx
    ·rename_i hj
     rw [List.getElem?_drop] at hx
     exact ⟨hj, hx⟩
    ·cases hx
   refine ⟨fun j hj => ?_, .t (.ag _ _ (fun j => c (off + j)) ?_ (fun j hj => ?_) (fun j x hx => ?_) (fun j x hx => ?_))⟩
   ·simp only [if_true] at hj; omega
   ·simp; omega
   ·have : j < n := by simp at hj; omega
    simp [this]
   ·exact (hc _ x (get j x hx).2).1
   ·exact (hc _ x (get j x hx).2).2
  ·cases h
theorem ziS (hT : Tys.ok P tt) (h : Rel Hy X B St w0 Dp s ι a w) (ty : TypeId) (x : Operand) (K : A → Prop) (hk : Pk tt (.load ty x) s K) : Does P B St s ι w K (Instr.loadAt ty (a.eval x)) := by
 obtain ⟨d, hd, hk⟩ := zE hk
 have hx := h.ev x
 have td := hT _ _ hd
 split at hk
 ·rename_i id g off e
  rw [e] at hx
  obtain ⟨hg, hk⟩ := hk
  obtain ⟨blk, hi, hv⟩ := hx.ptr_get hg
  split at hk
  ·rename_i ty' l hkk
   obtain ⟨y, hy, hk⟩ := zE hk
   have ho := h.ob id
   rw [hkk] at ho
   obtain ⟨blk', cs, h1, h2, h3, h4, h5⟩ := ho
   rw [hi] at h1
   cases h1
   obtain ⟨t1, t2⟩ := zfV hy _ _ h5
   refine .of ?_ (t2 (fun j => cs.getD (off + j) undef) (fun j hj => ?_)) hk
   ·rw [hv]
    show (loadVar ty _).run P w = _
    rw [zeS td blk off (fun j => cs.getD (off + j) undef) (fun j hj => ?_)]
    rw [cell_of_row w blk (off + j) cs ty' (0, 0) h3]
    obtain ⟨c, hc⟩ := Option.isSome_iff_exists.1 (t1 j hj)
    simp [Array.getD_eq_getD_getElem?, hc]
   ·obtain ⟨c, hc⟩ := Option.isSome_iff_exists.1 (t1 j hj)
    simp [Array.getD_eq_getD_getElem?, hc]
  ·exact hk.elim
 ·rename_i l e
  rw [e] at hx
  obtain ⟨y, hy, hk⟩ := zE hk
  have hx := hx.dat
  generalize hv : a.eval x = v at hx
  cases hx with
  | cp blk off l c hD hc hl hr =>
  obtain ⟨t1, t2⟩ := zfW (ι := ι) hy _ s.o c (fun j x hx => ⟨hl j x hx, hr j x hx⟩)
  refine .of ?_ t2 hk
  show (loadVar ty _).run P w = _
  simp only [Nat.zero_add] at t1 ⊢
  exact zeS td blk off c (fun j hj => hc j (t1 j hj))
 ·rename_i id g z i off e
  rw [e] at hx
  obtain ⟨hg, hk⟩ := hk
  obtain ⟨blk, n, cap, hi, hv⟩ := hx.rp_get hg
  split at hk
  ·rename_i ty' z' l hkk
   obtain ⟨rfl, hk⟩ := hk
   obtain ⟨c0, hc0, hk⟩ := zE hk
   obtain ⟨y, hy, hk⟩ := zE hk
   have ho := h.ob id
   rw [hkk] at ho
   obtain ⟨h1, xs, h2, h3⟩ := ho
   rw [hi] at h2
   have hil := (List.getElem?_eq_some_iff.1 hc0).1
   have fl : ∀ (j : Nat) t, c0[j]? = some t → l.flatten[i * z + j]? = some t := fun j t ht => zcE h1 hc0 ht
   have hlen : xs.length = l.length * z := h2.1
   have hn : l.length = n := by
    rcases h2.2 with ⟨h4, _⟩ | ⟨g', cap', cur, h4, _⟩
    ·cases h4
    ·cases h4; rfl
   have hcell : ∀ j, i * z + j < xs.length → w.cell? ⟨blk, i * z + j, none⟩ = xs[i * z + j]? := fun j hj => by
    rw [hn] at h2
    exact h2.cellAt (i * z + j) (by rw [← hn, ← hlen]; exact hj)
   obtain ⟨t1, t2⟩ := zfW (ι := ι) hy (Sd B St s.o ι w) s.o (fun j => xs.getD (i * z + j) undef) (fun j t ht => by
    obtain ⟨c, hc, hl, hr⟩ := h3 _ t (fl j t ht)
    refine ⟨hl, ?_⟩
    rw [show xs.getD (i * z + j) undef = c by simp [hc]]
    exact hr)
   refine .of ?_ t2 hk
   rw [hv]
   show (loadVar ty _).run P w = _
   refine zeS td blk (i * z + off) (fun j => xs.getD (i * z + (off + j)) undef) (fun j hj => ?_)
   have hj2 : off + j < c0.length := t1 j hj
   obtain ⟨c, hc, _⟩ := h3 _ _ (fl (off + j) c0[off + j] (List.getElem?_eq_getElem hj2))
   rw [Nat.add_assoc, hcell (off + j) (List.getElem?_eq_some_iff.1 hc).1, hc]
   simp [hc]
  ·rename_i ty' z' l hkk
   obtain ⟨rfl, hk⟩ := hk
   obtain ⟨c0, hc0, hk⟩ := zE hk
   obtain ⟨y, hy, hk⟩ := zE hk
   have ho := h.ob id
   rw [hkk] at ho
   obtain ⟨h1, xs, h2, h3⟩ := ho
   rw [hi] at h2
   have hil := (List.getElem?_eq_some_iff.1 hc0).1
   have fl : ∀ (j : Nat) t, c0[j]? = some t → l.flatten[i * z + j]? = some t := fun j t ht => zcE h1 hc0 ht
   have hlen : xs.length = l.length * z := h2.1
   have hn : l.length = n := by
    rcases h2.2 with ⟨h4, _⟩ | ⟨g', cap', cur, h4, _⟩
    ·cases h4
    ·cases h4; rfl
   have hcell : ∀ j, i * z + j < xs.length → w.cell? ⟨blk, i * z + j, none⟩ = xs[i * z + j]? := fun j hj => by
    rw [hn] at h2
    exact h2.cellAt (i * z + j) (by rw [← hn, ← hlen]; exact hj)
   obtain ⟨t1, t2⟩ := zfV (cs := ((xs.drop (i * z)).take z).toArray) hy (Sd B St s.o ι w) s.o (fun j t ht => by
    obtain ⟨c, hc, hl, hr⟩ := h3 _ t (fl j t ht)
    have hj := (List.getElem?_eq_some_iff.1 ht).1
    rw [h1 _ (List.mem_of_getElem? hc0)] at hj
    exact ⟨c, by simp [hj, hc], hl, hr⟩)
   have tget : ∀ j, j < (if d.agg then d.size else 1) → ∃ c, xs[i * z + (off + j)]? = some c ∧ off + j < z := fun j hj => by
    obtain ⟨c, hc⟩ := Option.isSome_iff_exists.1 (t1 j hj)
    refine ⟨c, ?_⟩
    simp only [List.getElem?_toArray, List.getElem?_take] at hc
    split at hc
    ·rename_i hlt
     rw [List.getElem?_drop] at hc
     exact ⟨hc, hlt⟩
    ·cases hc
   refine .of ?_ (t2 (fun j => xs.getD (i * z + (off + j)) undef) (fun j hj => ?_)) hk
   ·rw [hv]
    show (loadVar ty _).run P w = _
    refine zeS td blk (i * z + off) (fun j => xs.getD (i * z + (off + j)) undef) (fun j hj => ?_)
    obtain ⟨c, hc, _⟩ := tget j hj
    rw [Nat.add_assoc, hcell (off + j) (List.getElem?_eq_some_iff.1 hc).1, hc]
    simp [hc]
   ·obtain ⟨c, hc, hlt⟩ := tget j hj
    simp [hlt, hc]
  ·exact hk.elim
 ·exact hk.elim
theorem ziT (d : Nat) {t : TypeId} (hu : (underlying t).run P w = .ok .bool w) (a b : Bool) : (Op.equalIn (d + 1) t (.bool a) (.bool b)).run P w = .ok (a == b) w := by
 simp only [Op.equalIn, Sem.run_bind, hu, Result.andThen_ok]
 rfl
theorem ziU {t : TypeId} (hu : (underlying t).run P w = .ok .bool w) (a b : Bool) : (Op.equal t (.bool a) (.bool b)).run P w = .ok (a == b) w := ziT 9999 hu a b
theorem ziV {k : IntKind} : ∀ {l : List A} {ns : List Int}, kyI k l = some ns → l = ns.map fun n => A.t (.i k n)
 | [], ns, h => by cases h; rfl
 | x :: l, ns, h => by
  unfold kyI at h
  split at h
  ·cases ‹x :: l = []›
  ·rename_i k' n l' e
   cases e
   split at h
   ·rename_i hk
    subst hk
    obtain ⟨ms, hm, rfl⟩ := Option.map_eq_some_iff.1 h
    rw [ziV hm]
    rfl
   ·cases h
  ·cases h
theorem Ra.int_get {D : Nat → Prop} {o : Nat → O} {v : Value} {k : IntKind} {n : Int} (h : Ra w D o ι v (.t (.i k n))) : v = .int k n := by
 cases h with
 | t h => cases h; rfl
theorem ziW {D : Nat → Prop} {o : Nat → O} {cs : Array Value} {l : List A} {c : Nat → Value} {ky : Ky} (hz : cs.size = l.length) (hc : ∀ j, j < l.length → cs[j]? = some (c j)) (h : ∀ (j : Nat) x, l[j]? = some x → Ra w D o ι (c j) x) (hk : kyG l = some ky) : Value.agg cs = ky.v := by
 unfold kyG at hk
 split at hk
 ·rename_i k n l'
  obtain ⟨ns, hn, rfl⟩ := Option.map_eq_some_iff.1 hk
  have e := ziV hn
  rw [e] at hz hc h
  show Value.agg cs = Value.agg _
  have : cs.toList = ns.map (Value.int k) := List.ext_getElem? fun j => by
   rw [List.getElem?_map, Array.getElem?_toList]
   by_cases hj : j < ns.length
   ·have hn2 : ns[j]? = some ns[j] := List.getElem?_eq_getElem hj
    rw [hc j (by simpa using hj), hn2]
    have := h j (.t (.i k ns[j])) (by rw [List.getElem?_map, hn2]; rfl)
    rw [this.int_get]
    rfl
   ·rw [List.getElem?_eq_none (by omega), Array.getElem?_eq_none (by rw [hz]; simpa using hj)]
    rfl
  rw [← this]
 ·cases hk
theorem zd6 {D : Nat → Prop} {o : Nat → O} {x : A} {v : Value} {ky : Ky} (h : kyA x = some ky) (hr : Ra w D o ι v x) : v = ky.v := by
 unfold kyA at h
 split at h
 ·cases h
  exact hr.int_get
 ·cases h
  cases hr with
  | t h => cases h; rfl
 ·rename_i l0
  cases hr with
  | t hr => cases hr with
   | ag cs _ c hz hc hl hh =>
    refine ziW (w := w) (D := D) (o := o) (ι := ι) (l := l0.map .t) (c := c) (by simpa using hz) (fun j hj => hc j (by simpa using hj)) (fun j x hx => ?_) h
    rw [List.getElem?_map] at hx
    obtain ⟨t, ht, rfl⟩ := Option.map_eq_some_iff.1 hx
    exact .t (hh j t ht)
 ·cases hr with
  | ag cs l c hz hc hl hh => exact ziW hz hc hh h
 ·cases h
theorem ziX {e : TypeId} {de : TD} (he : TdOk P e de) (hag : de.agg = false) {l : List Int} {q : IntKind} {j : Nat} {x : Int} (hx : l[j]? = some x) : (part e (l.map (Value.int q)).toArray j).run P w = .ok (.int q x) w := by
 have hag2 := he.isAgg (P := P) (w := w)
 rw [hag] at hag2
 simp [part, Sem.run_bind, hag2, Result.andThen, hx]
theorem ziY {e : TypeId} {de : TD} (he : TdOk P e de) (hag : de.agg = false) {q : IntKind} (hq : P.underlying e = some (.int q)) {l m : List Int} {n : Nat} (hl : l.length = n) (hm : m.length = n) (d : Nat) : ∀ r j, j + r = n →
  (Op.eqItems (d + 1) e 1 (l.map (Value.int q)).toArray (m.map (Value.int q)).toArray (List.range' j r)).run P w = .ok (decide (l.drop j = m.drop j)) w
 | 0, j, h => by
  rw [List.drop_eq_nil_of_le (by omega), List.drop_eq_nil_of_le (by omega)]
  rfl
 | r + 1, j, h => by
  have h1 : l[j]? = some l[j] := List.getElem?_eq_getElem (by omega)
  have h2 : m[j]? = some m[j] := List.getElem?_eq_getElem (by omega)
  have ih := ziY he hag hq hl hm d r (j + 1) (by omega)
  rw [List.range'_succ]
  simp only [Op.eqItems, Nat.mul_one, Sem.run_bind, ziX he hag h1, ziX he hag h2, Result.andThen, run_equalIn_int w d e q q _ _ hq]
  have d1 : l.drop j = l[j] :: l.drop (j + 1) := List.drop_eq_getElem_cons (by omega)
  have d2 : m.drop j = m[j] :: m.drop (j + 1) := List.drop_eq_getElem_cons (by omega)
  rw [d1, d2]
  by_cases hx : l[j] = m[j]
  ·simp only [hx, beq_self_eq_true, Bool.not_true, Bool.false_eq_true, if_false]
   rw [ih]
   exact congrArg (fun b => Result.ok b w) (decide_eq_decide.2 ⟨fun e => by rw [e], fun e => (List.cons.inj e).2⟩)
  ·have h3 : (l[j] == m[j]) = false := by simpa using hx
   rw [decide_eq_false (fun e => hx (List.cons.inj e).1)]
   simp only [h3, Bool.not_false, if_true]
   rfl
theorem zm6 {ty e : TypeId} {n : Nat} {de : TD} (hu : P.underlying ty = some (.array n e)) (he : TdOk P e de) (hs : de.size = 1) (hag : de.agg = false) {q : IntKind} (hq : P.underlying e = some (.int q)) {l m : List Int} (hl : l.length = n) (hm : m.length = n) :
  (Op.equal ty (.agg (l.map (Value.int q)).toArray) (.agg (m.map (Value.int q)).toArray)).run P w = .ok (decide (l = m)) w := by
 obtain ⟨i, z, i1, i2, _⟩ := he.info
 have hc : P.cellsOf e = 1 := by simp [Program.cellsOf, i1, i2, hs]
 have := run_equalIn_array w 9999 (l.map (Value.int q)).toArray (m.map (Value.int q)).toArray hu i1
 rw [hc, List.range_eq_range'] at this
 have h2 := ziY (w := w) he hag hq hl hm 9998 n 0 (by omega)
 rw [List.drop_zero, List.drop_zero] at h2
 exact this.trans h2
theorem zm7 {ty e : TypeId} {n : Nat} (hu : P.underlying ty = some (.array n e)) {q : IntKind} (hq : P.underlying e = some (.int q)) (op : BinOp) (ox oy : Operand) (xs ys : Array Value) : (eqGuard op ty ox oy (.agg xs) (.agg ys)).run P w = .ok () w := by
 have hd : ∃ k, P.depth = k + 2 := ⟨2 * (P.types.size + Made.depth), rfl⟩
 obtain ⟨k, hd⟩ := hd
 have h1 : P.eqGuardType P.depth ty = false := by
  rw [hd]
  simp [Program.eqGuardType, hu, hq]
 unfold eqGuard
 cases op <;> simp [Sem.run_bind, program, Sem.run, Result.andThen, h1] <;> rfl
theorem zfX (a b : Int) : (a == b) = decide (a = b) := by rw [Bool.eq_iff_iff]; simp
theorem zm8 {D : Nat → Prop} {o : Nat → O} {t : TypeId} {d : TD} (td : TdOk P t d) {x y : T} {u v : Value} {b : Bool} (hx : Ra w D o ι u (.t x)) (hy : Ra w D o ι v (.t y)) (h : eqF d.k x y = some b) (n : Nat) : (Op.equalIn (n + 1) t u v).run P w = .ok b w := by
 obtain ⟨du, hu, hok, _⟩ := td.desc
 unfold eqF at h
 split at h
 ·rename_i q k a k' b' hq
  rw [hq] at hok
  simp only [TK.ok] at hok
  subst hok
  obtain rfl := hx.int
  obtain rfl := hy.int
  split at h
  ·rename_i e
   subst e
   cases h
   rw [run_equalIn_int w n t _ _ _ _ hu, zfX]
  ·cases h
 ·rename_i a b' hq
  rw [hq] at hok
  simp only [TK.ok] at hok
  subst hok
  obtain rfl := hx.str
  obtain rfl := hy.str
  cases h
  have e : (a == b') = decide (a = b') := by
   rw [beq_toListBytes, Bool.eq_iff_iff, beq_iff_eq, decide_eq_true_eq]
   constructor
   ·intro h
    rw [ByteArray.toList_eq, ByteArray.toList_eq] at h
    cases a; cases b'
    simp_all
   ·intro h; rw [h]
  simp only [Op.equalIn, Sem.run_bind, run_underlying hu, Result.andThen_ok]
  rw [← e]
  rfl
 ·rename_i a b' hq
  rw [hq] at hok
  simp only [TK.ok] at hok
  subst hok
  cases hx with
  | t h1 =>
   cases h1
   cases hy with
   | t h2 =>
    cases h2
    cases h
    exact ziT n (run_underlying hu w) _ _
 ·cases h
theorem ziZ {e : TypeId} {de : TD} (he : TdOk P e de) (hag : de.agg = false) {xs : Array Value} {j : Nat} {v : Value} (hx : xs[j]? = some v) : (part e xs j).run P w = .ok v w := by
 have hag2 := he.isAgg (P := P) (w := w)
 rw [hag] at hag2
 simp [part, Sem.run_bind, hag2, Result.andThen, hx]
theorem zi0 {D : Nat → Prop} {o : Nat → O} {x : A} {v : Value} {l : List A} (h : agA x = some l) (hr : Ra w D o ι v x) : ∃ cs : Array Value, v = .agg cs ∧ ∀ (j : Nat) z, l[j]? = some z → ∃ u, cs[j]? = some u ∧ Ra w D o ι u z := by
 unfold agA at h
 split at h
 ·cases h
  cases hr with
  | t hr => cases hr with
   | ag cs _ c hz hc hl hh =>
    refine ⟨cs, rfl, fun j z hz' => ?_⟩
    rw [List.getElem?_map] at hz'
    obtain ⟨t, ht, rfl⟩ := Option.map_eq_some_iff.1 hz'
    exact ⟨c j, hc j (List.getElem?_eq_some_iff.1 ht).1, .t (hh j t ht)⟩
 ·cases h
  cases hr with
  | ag cs l c hz hc hl hh => exact ⟨cs, rfl, fun j z hz' => ⟨c j, hc j (List.getElem?_eq_some_iff.1 hz').1, hh j z hz'⟩⟩
 ·cases h
theorem zi1 {x : A} {t : T} (h : tF x = some t) : x = .t t := by
 unfold tF at h
 split at h
 ·cases h; rfl
 ·cases h
theorem zi2 (hT : Tys.ok P tt) {D : Nat → Prop} {o : Nat → O} {l m : List A} {xs ys : Array Value} (hx : ∀ (j : Nat) z, l[j]? = some z → ∃ u, xs[j]? = some u ∧ Ra w D o ι u z) (hy : ∀ (j : Nat) z, m[j]? = some z → ∃ u, ys[j]? = some u ∧ Ra w D o ι u z) (n : Nat) :
  ∀ (F : List Field) (b : Bool), (∀ f ∈ F, f.name ≠ "_") → zcF tt l m (F.map fun f => (f.offset, f.type)) = some b → (Op.eqFields (n + 1) xs ys F).run P w = .ok b w
 | [], b, _, h => by cases h; rfl
 | f :: F, b, hn, h => by
  have h' : ((tt f.type).bind fun d => if d.agg = false then ((l[f.offset]?).bind tF).bind fun x => ((m[f.offset]?).bind tF).bind fun y => (eqF d.k x y).bind fun b => (zcF tt l m (F.map fun f => (f.offset, f.type))).map (b && ·) else none) = some b := h
  obtain ⟨d, hd, h'⟩ := Option.bind_eq_some_iff.1 h'
  split at h'
  ·rename_i hag
   obtain ⟨x, h1, h'⟩ := Option.bind_eq_some_iff.1 h'
   obtain ⟨y, h2, h'⟩ := Option.bind_eq_some_iff.1 h'
   obtain ⟨c, h3, h'⟩ := Option.bind_eq_some_iff.1 h'
   obtain ⟨c2, h4, rfl⟩ := Option.map_eq_some_iff.1 h'
   obtain ⟨ax, h5, h6⟩ := Option.bind_eq_some_iff.1 h1
   obtain ⟨ay, h7, h8⟩ := Option.bind_eq_some_iff.1 h2
   rw [zi1 h6] at h5
   rw [zi1 h8] at h7
   obtain ⟨u, u1, u2⟩ := hx _ _ h5
   obtain ⟨v, v1, v2⟩ := hy _ _ h7
   have ih := zi2 hT hx hy n F c2 (fun g hg => hn g (List.mem_cons_of_mem _ hg)) h4
   have hne := hn f List.mem_cons_self
   simp only [Op.eqFields, hne, ne_eq, not_false_eq_true, if_true, Sem.run_bind, ziZ (hT _ _ hd) hag u1, ziZ (hT _ _ hd) hag v1, Result.andThen_ok, zm8 (hT _ _ hd) u2 v2 h3 n]
   cases c
   ·rfl
   ·simp only [Bool.not_true, Bool.false_eq_true, if_false, Bool.true_and]
    exact ih
  ·cases h'
theorem zm9 {t : TypeId} {d : TD} (td : TdOk P t d) {x y : T} {b : Bool} (h : eqF d.k x y = some b) (k : Nat) : P.eqGuardType (k + 1) t = false := by
 obtain ⟨du, hu, hok, _⟩ := td.desc
 unfold eqF at h
 split at h
 ·rename_i hq
  rw [hq] at hok
  simp only [TK.ok] at hok
  subst hok
  simp [Program.eqGuardType, hu]
 ·rename_i hq
  rw [hq] at hok
  simp only [TK.ok] at hok
  subst hok
  simp [Program.eqGuardType, hu]
 ·rename_i hq
  rw [hq] at hok
  simp only [TK.ok] at hok
  subst hok
  simp [Program.eqGuardType, hu]
 ·cases h
theorem zna (hT : Tys.ok P tt) {l m : List A} {ty : TypeId} {F : Array Field} (hu : P.underlying ty = some (.struct F)) {b : Bool} (h : zcF tt l m (F.toList.map fun f => (f.offset, f.type)) = some b) (op : BinOp) (ox oy : Operand) (xs ys : Array Value) : (eqGuard op ty ox oy (.agg xs) (.agg ys)).run P w = .ok () w := by
 obtain ⟨k, hd⟩ : ∃ k, P.depth = k + 2 := ⟨2 * (P.types.size + Made.depth), rfl⟩
 have hf : ∀ (F : List Field) (b : Bool), zcF tt l m (F.map fun f => (f.offset, f.type)) = some b → F.any (fun f => f.name != "_" && P.eqGuardType (k + 1) f.type) = false := fun F => by
  induction F with
  | nil => intro b _; rfl
  | cons f F ih =>
   intro b h
   have h' : ((tt f.type).bind fun d => if d.agg = false then ((l[f.offset]?).bind tF).bind fun x => ((m[f.offset]?).bind tF).bind fun y => (eqF d.k x y).bind fun b => (zcF tt l m (F.map fun f => (f.offset, f.type))).map (b && ·) else none) = some b := h
   obtain ⟨d, hd, h'⟩ := Option.bind_eq_some_iff.1 h'
   split at h'
   ·obtain ⟨x, h1, h'⟩ := Option.bind_eq_some_iff.1 h'
    obtain ⟨y, h2, h'⟩ := Option.bind_eq_some_iff.1 h'
    obtain ⟨c, h3, h'⟩ := Option.bind_eq_some_iff.1 h'
    obtain ⟨c2, h4, rfl⟩ := Option.map_eq_some_iff.1 h'
    have hg := zm9 (hT _ _ hd) h3 k
    rw [List.any_cons, hg, ih c2 h4, Bool.and_false]
    rfl
   ·cases h'
 have h1 : P.eqGuardType P.depth ty = false := by
  rw [hd]
  unfold Program.eqGuardType
  rw [hu]
  show F.any (fun f => f.name != "_" && P.eqGuardType (k + 1) f.type) = false
  rw [← Array.any_toList]
  exact hf _ _ h
 unfold eqGuard
 cases op <;> simp [Sem.run_bind, program, Sem.run, Result.andThen, h1] <;> rfl
theorem znb (hT : Tys.ok P tt) {D : Nat → Prop} {o : Nat → O} {x y : A} {u v : Value} (hx : Ra w D o ι u x) (hy : Ra w D o ι v y) (op : BinOp) (ty : TypeId) (ox oy : Operand) (K : A → Prop) (hk : zb7 tt op ty x y K) :
  ∃ r z, (do eqGuard op ty ox oy u v; binOp op ty u v).run P w = .ok r w ∧ Ra w D o ι r z ∧ K z := by
 unfold zb7 at hk
 split at hk
 ·rename_i k a k' b
  obtain rfl := hx.int
  obtain rfl := hy.int
  have g : (eqGuard op ty ox oy (.int k a) (.int k' b)).run P w = .ok () w := by
   unfold eqGuard
   cases op <;> rfl
  rw [Sem.run_bind, g]
  simp only [Result.andThen]
  clear g
  have hm : (0 ≤ b ∧ b ≤ k.bits) → ¬ b < 0 ∧ min b.toNat k.bits = b.toNat := fun h => ⟨by omega, by omega⟩
  cases op
  case shl => exact ⟨.int k (a * 2 ^ b.toNat), _, by simp [binOp, Op.shift, (hm hk.1).1, (hm hk.1).2, zds hk.2.1], .t (.i _ _), hk.2.2⟩
  case shr => exact ⟨.int k (a.fdiv (2 ^ b.toNat)), _, by simp [binOp, Op.shift, (hm hk.1).1, (hm hk.1).2], .t (.i _ _), hk.2⟩
  all_goals obtain ⟨rfl, hk⟩ := hk
  case add => exact ⟨.int k (a + b), _, by simp [binOp, Op.intArith, zds hk.1], .t (.i _ _), hk.2⟩
  case sub => exact ⟨.int k (a - b), _, by simp [binOp, Op.intArith, zds hk.1], .t (.i _ _), hk.2⟩
  case mul => exact ⟨.int k (a * b), _, by simp [binOp, Op.intArith, zds hk.1], .t (.i _ _), hk.2⟩
  case quo => exact ⟨.int k (a.tdiv b), _, by simp [binOp, Op.intDiv, hk.1, zds hk.2.1], .t (.i _ _), hk.2.2⟩
  case rem => exact ⟨.int k (a.tmod b), _, by simp [binOp, Op.intDiv, hk.1], .t (.i _ _), hk.2⟩
  case eql => exact ⟨.bool (decide (a = b)), _, by simp [binOp, Op.intCmp, zfX], .t (.b _), hk⟩
  case neq => exact ⟨.bool (!decide (a = b)), _, by simp [binOp, Op.intCmp, bne, zfX], .t (.b _), hk⟩
  case lss => exact ⟨.bool (decide (a < b)), _, by simp [binOp, Op.intCmp], .t (.b _), hk⟩
  case leq => exact ⟨.bool (decide (a ≤ b)), _, by simp [binOp, Op.intCmp], .t (.b _), hk⟩
  case gtr => exact ⟨.bool (decide (b < a)), _, by simp [binOp, Op.intCmp], .t (.b _), hk⟩
  case geq => exact ⟨.bool (decide (b ≤ a)), _, by simp [binOp, Op.intCmp], .t (.b _), hk⟩
  case and => exact ⟨.int k (zbO .and k a b), _, by simp [binOp, Op.intBits, zbO], .t (.i _ _), hk⟩
  case or => exact ⟨.int k (zbO .or k a b), _, by simp [binOp, Op.intBits, zbO], .t (.i _ _), hk⟩
  case xor => exact ⟨.int k (zbO .xor k a b), _, by simp [binOp, Op.intBits, zbO], .t (.i _ _), hk⟩
  case andNot => exact ⟨.int k (zbO .andNot k a b), _, by simp [binOp, Op.intBits, zbO], .t (.i _ _), hk⟩
  all_goals exact hk.elim
 ·rename_i a b
  obtain rfl := hx.str
  obtain rfl := hy.str
  have g : (eqGuard op ty ox oy (.string a) (.string b)).run P w = .ok () w := by
   unfold eqGuard
   cases op <;> rfl
  have e : (a.toList == b.toList) = decide (a = b) := by
   rw [Bool.eq_iff_iff, beq_iff_eq, decide_eq_true_eq]
   constructor
   ·intro h
    rw [ByteArray.toList_eq, ByteArray.toList_eq] at h
    cases a; cases b
    simp_all
   ·intro h; rw [h]
  rw [Sem.run_bind, g]
  simp only [Result.andThen]
  cases op
  case eql => exact ⟨.bool (decide (a = b)), _, by simp [binOp, Op.stringOp, e], .t (.b _), hk⟩
  case neq => exact ⟨.bool (!decide (a = b)), _, by simp [binOp, Op.stringOp, e], .t (.b _), hk⟩
  case add =>
   refine ⟨.string (a ++ b), _, ?_, .t (.s _), hk.2⟩
   have hn : ¬ ((a.size + b.size : Nat) : Int) > IntKind.i64.max := by
    have : IntKind.i64.max = 9223372036854775807 := by decide
    omega
   simp only [binOp, Op.stringOp, if_neg hn]
   rfl
  case lss => exact ⟨.bool (Op.bytesLess a.toList b.toList), _, by simp [binOp, Op.stringOp], .t (.b _), hk⟩
  case leq => exact ⟨.bool (Op.bytesLess a.toList b.toList || decide (a = b)), _, by simp [binOp, Op.stringOp, e], .t (.b _), hk⟩
  case gtr => exact ⟨.bool (!(Op.bytesLess a.toList b.toList || decide (a = b))), _, by simp [binOp, Op.stringOp, e], .t (.b _), hk⟩
  case geq => exact ⟨.bool (!Op.bytesLess a.toList b.toList), _, by simp [binOp, Op.stringOp], .t (.b _), hk⟩
  all_goals exact hk.elim
 ·rename_i a b
  obtain ⟨d, hd, hdk, hk⟩ := zE hk
  obtain ⟨du, hu, hok⟩ := (hT _ _ hd).und
  rw [hdk] at hok
  simp only [TK.ok] at hok
  subst hok
  obtain rfl : u = .bool a := by cases hx with | t hx => cases hx; rfl
  obtain rfl : v = .bool b := by cases hy with | t hy => cases hy; rfl
  have g : (eqGuard op ty ox oy (.bool a) (.bool b)).run P w = .ok () w := by
   unfold eqGuard
   cases op <;> rfl
  rw [Sem.run_bind, g]
  simp only [Result.andThen]
  cases op
  case eql => exact ⟨.bool (a == b), _, by simp only [binOp, Sem.run_bind, ziU (hu w), Result.andThen_ok]; rfl, .t (.b _), hk⟩
  case neq => exact ⟨.bool (a != b), _, by simp only [binOp, Sem.run_bind, ziU (hu w), Result.andThen_ok]; rfl, .t (.b _), hk⟩
  all_goals exact hk.elim
 ·obtain ⟨d, hd, hk⟩ := zE hk
  obtain ⟨du, hu, hok, _⟩ := (hT _ _ hd).desc
  split at hk
  ·rename_i n e he
   rw [he] at hok
   simp only [TK.ok] at hok
   subst hok
   obtain ⟨de, hde, hk⟩ := zE hk
   obtain ⟨dv, hu2, hok2, _⟩ := (hT _ _ hde).desc
   split at hk
   ·rename_i q hq
    rw [hq] at hok2
    simp only [TK.ok] at hok2
    subst hok2
    obtain ⟨⟨hs, hag⟩, hk1⟩ := hk
    obtain ⟨ka, hka, hk2⟩ := zE hk1
    obtain ⟨kb, hkb, hk3⟩ := zE hk2
    clear hk1 hk2
    cases ka <;> first | exact hk3.elim | skip
    cases kb <;> first | exact hk3.elim | skip
    ·rename_i k l k' m
     obtain ⟨⟨rfl, rfl, h1, h2⟩, hk4⟩ := hk3
     have e1 := zd6 hka hx
     have e2 := zd6 hkb hy
     simp only [Ky.v] at e1 e2
     subst e1
     subst e2
     rw [Sem.run_bind, zm7 hu hu2]
     simp only [Result.andThen]
     have he := zm6 (w := w) hu (hT _ _ hde) hs hag hu2 h1 h2
     cases op
     case eql => exact ⟨.bool (decide (l = m)), _, by simp only [binOp, Sem.run_bind, he, Result.andThen_ok]; rfl, .t (.b _), hk4⟩
     case neq => exact ⟨.bool (!decide (l = m)), _, by simp only [binOp, Sem.run_bind, he, Result.andThen_ok]; rfl, .t (.b _), hk4⟩
     all_goals exact hk4.elim
   ·exact hk.elim
  ·rename_i fs he
   rw [he] at hok
   obtain ⟨F, rfl, hfs⟩ := hok
   subst hfs
   obtain ⟨heq, hk⟩ := hk
   obtain ⟨hst, hnm⟩ := (hT _ _ hd).eqs heq
   obtain ⟨l, hl, hk⟩ := zE hk
   obtain ⟨m, hm, hk⟩ := zE hk
   obtain ⟨b, hb, hk⟩ := zE hk
   obtain ⟨xs, rfl, hxs⟩ := zi0 hl hx
   obtain ⟨ys, rfl, hys⟩ := zi0 hm hy
   have hfo : P.fieldsOf ty = F := by simp [Program.fieldsOf, hu]
   have he : (Op.equal ty (.agg xs) (.agg ys)).run P w = .ok b w := by
    show (Op.equalIn (9999 + 1) ty (.agg xs) (.agg ys)).run P w = _
    rw [run_equalIn_struct w 9999 ty xs ys (by rw [hfo]; exact hu) hst, hfo]
    exact zi2 hT hxs hys 9998 F.toList b (hnm F hu) hb
   rw [Sem.run_bind, zna hT hu hb]
   simp only [Result.andThen]
   cases op
   case eql => exact ⟨.bool b, _, by simp only [binOp, Sem.run_bind, he, Result.andThen_ok]; rfl, .t (.b _), hk⟩
   case neq => exact ⟨.bool (!b), _, by simp only [binOp, Sem.run_bind, he, Result.andThen_ok]; rfl, .t (.b _), hk⟩
   all_goals exact hk.elim
  ·exact hk.elim
theorem znc (hT : Tys.ok P tt) (h : Rel Hy X B St w0 Dp s ι a w) (b : Builtin) (args : List Operand) (tys : List TypeId) (K : A → Prop) (hk : biK tt b (args.map s.ev) tys s K) (ty : TypeId) (cs : Array Bool) :
  ∃ v y, (builtin b tys.toArray ty cs (args.map a.eval).toArray).run P w = .ok (.value v) w ∧ Ra w (Sd B St s.o ι w) s.o ι v y ∧ K y := by
 unfold biK at hk
 split at hk
 ·rename_i x t hargs
  obtain ⟨x0, rfl, rfl⟩ : ∃ x0, args = [x0] ∧ s.ev x0 = x := by
   match args, hargs with
   | [x0], e => exact ⟨x0, rfl, by simpa using e⟩
  obtain ⟨d, hd, hk⟩ := zE hk
  obtain ⟨u, hu, hok⟩ := (hT _ _ hd).und
  have hx := h.ev x0
  split at hk
  ·rename_i e1 e2
   rw [e2] at hx
   have hv := hx.str
   rw [e1] at hok
   simp only [TK.ok] at hok
   subst hok
   exact ⟨_, _, by simp [builtin, Builtin.len_, hu w, hv, goInt], .t (.i _ _), hk⟩
  ·rename_i e1 e2
   rw [e2] at hx
   rw [e1] at hok
   simp only [TK.ok] at hok
   subst hok
   generalize hv : a.eval x0 = v at hx
   cases hx with
   | t hx =>
   cases hx with
   | sl0 p c _ => exact ⟨_, _, by simp [builtin, Builtin.len_, hu w, hv, goInt], .t (.i _ _), hk⟩
   | sl g o n cap z l c hn => subst hn; exact ⟨_, _, by simp [builtin, Builtin.len_, hu w, hv, goInt], .t (.i _ _), hk⟩
  ·rename_i e1 e2
   rw [e2] at hx
   rw [e1] at hok
   simp only [TK.ok] at hok
   subst hok
   have hv := hx.nil_get
   exact ⟨_, _, by simp [builtin, Builtin.len_, hu w, hv, goInt], .t (.i _ _), hk⟩
  ·rename_i id g e1 e2
   rw [e2] at hx
   rw [e1] at hok
   simp only [TK.ok] at hok
   subst hok
   obtain ⟨hg, hk⟩ := hk
   have hv := hx.row_get hg
   have ho := h.ob id
   split at hk
   ·rename_i ty' z l hkk
    rw [hkk] at ho
    obtain ⟨h1, xs, h2, h3⟩ := ho
    have : ∃ p c, a.eval x0 = .slice p l.length c := by
     rw [hv]
     rcases h2.2 with ⟨h4, h5⟩ | ⟨g', cap', cur, h4, _⟩
     ·exact ⟨none, 0, by rw [h4, h5]⟩
     ·exact ⟨_, _, h4⟩
    obtain ⟨p, c, hv⟩ := this
    exact ⟨_, _, by simp [builtin, Builtin.len_, hu w, hv, goInt], .t (.i _ _), hk⟩
   ·rename_i ty' z l hkk
    rw [hkk] at ho
    obtain ⟨h1, xs, h2, h3⟩ := ho
    have : ∃ p c, a.eval x0 = .slice p l.length c := by
     rw [hv]
     rcases h2.2 with ⟨h4, h5⟩ | ⟨g', cap', cur, h4, _⟩
     ·exact ⟨none, 0, by rw [h4, h5]⟩
     ·exact ⟨_, _, h4⟩
    obtain ⟨p, c, hv⟩ := this
    exact ⟨_, _, by simp [builtin, Builtin.len_, hu w, hv, goInt], .t (.i _ _), hk⟩
   ·rename_i l hkk
    rw [hkk] at ho
    have : ∃ p c, a.eval x0 = .slice p l.length c := by
     rw [hv]
     revert ho
     generalize ι id = q
     intro ho
     cases ho with
     | sl0 p c _ => exact ⟨p, c, rfl⟩
     | sl g o n cap z l c hn => subst hn; exact ⟨_, _, rfl⟩
    obtain ⟨p, c, hv⟩ := this
    exact ⟨_, _, by simp [builtin, Builtin.len_, hu w, hv, goInt], .t (.i _ _), hk⟩
   ·exact hk.elim
  ·exact hk.elim
 ·rename_i x t hargs
  obtain ⟨x0, rfl, rfl⟩ : ∃ x0, args = [x0] ∧ s.ev x0 = x := by
   match args, hargs with
   | [x0], e => exact ⟨x0, rfl, by simpa using e⟩
  obtain ⟨d, hd, hk⟩ := zE hk
  obtain ⟨u, hu, hok⟩ := (hT _ _ hd).und
  have hx := h.ev x0
  split at hk
  ·rename_i e1 e2
   rw [e2] at hx
   rw [e1] at hok
   simp only [TK.ok] at hok
   subst hok
   have hv := hx.nil_get
   exact ⟨.int .i64 0, _, by simp [builtin, Builtin.cap_, hu w, hv, goInt], .t (.i _ _), hk⟩
  ·exact hk.elim
 ·rename_i x y hargs
  obtain ⟨x0, y0, rfl, rfl, rfl⟩ : ∃ x0 y0, args = [x0, y0] ∧ s.ev x0 = x ∧ s.ev y0 = y := by
   match args, hargs with
   | [x0, y0], e => exact ⟨x0, y0, rfl, by simpa using e⟩
  have hx := h.ev x0
  have hy := h.ev y0
  split at hk
  ·rename_i e1 e2
   rw [e1] at hx
   rw [e2] at hy
   obtain ⟨rfl, hk⟩ := hk
   have hv := hx.int
   have hv2 := hy.int
   exact ⟨_, _, by simp [builtin, Builtin.max_, hv, hv2, Builtin.max2], .t (.i _ _), hk⟩
  ·exact hk.elim
 ·rename_i x y hargs
  obtain ⟨x0, y0, rfl, rfl, rfl⟩ : ∃ x0 y0, args = [x0, y0] ∧ s.ev x0 = x ∧ s.ev y0 = y := by
   match args, hargs with
   | [x0, y0], e => exact ⟨x0, y0, rfl, by simpa using e⟩
  have hx := h.ev x0
  have hy := h.ev y0
  split at hk
  ·rename_i e1 e2
   rw [e1] at hx
   rw [e2] at hy
   obtain ⟨rfl, hk⟩ := hk
   have hv := hx.int
   have hv2 := hy.int
   exact ⟨_, _, by simp [builtin, Builtin.min_, hv, hv2, Builtin.min2], .t (.i _ _), hk⟩
  ·exact hk.elim
 ·exact hk.elim
theorem Rt.take {w : World} {D : Nat → Prop} {v : Value} {l : List (List T)} (h : Rt w D v (.sl l)) {n : Nat} (hn : n ≤ l.length) : ∃ a c, v = .slice a l.length c ∧ n ≤ c ∧ Rt w D (.slice a n c) (.sl (l.take n)) := by
 cases h with
 | sl0 a cap h =>
  obtain rfl : n = 0 := by simpa using hn
  exact ⟨a, cap, rfl, Nat.zero_le _, .sl0 a cap h⟩
 | sl g o m cap z _ c hm hq hD hz hc hl h =>
  subst hm
  have hlen : (l.take n).length = n := by rw [List.length_take]; omega
  have hpre : ∀ (j : Nat) t, (l.take n).flatten[j]? = some t → l.flatten[j]? = some t := fun j t ht => by
   have e : l.flatten = (l.take n).flatten ++ (l.drop n).flatten := by rw [← List.flatten_append, List.take_append_drop]
   rw [e, List.getElem?_append_left (List.getElem?_eq_some_iff.1 ht).1]
   exact ht
  refine ⟨some ⟨g, o, none⟩, cap, rfl, Nat.le_trans hn hq, .sl g o n cap z _ c hlen.symm (Nat.le_trans hn hq) hD (fun e he => hz e (List.mem_of_mem_take he)) (fun j hj => hc j ?_) (fun j t ht => hl j t (hpre j t ht)) (fun j t ht => h j t (hpre j t ht))⟩
  rw [hlen] at hj
  exact Nat.lt_of_lt_of_le hj (Nat.mul_le_mul_right z hn)
theorem add_lit (b o n : Nat) : (⟨b, o, none⟩ : Addr).add n = ⟨b, o + n, none⟩ := Addr.add_mid b o n
theorem zfY {st : TypeId} {d : TD} (td : TdOk P st d) {fs : List (Nat × TypeId)} (e : d.k = .struct fs) {f : Nat} {p : Nat × TypeId} (hp : fs[f]? = some p) {de : TD} (te : TdOk P p.2 de) (hz : de.size ≠ 0) (blk off : Nat) :
  (Instr.fieldAt st (.pointer (some ⟨blk, off, none⟩)) f).run P w = .ok (.pointer (some ⟨blk, off + p.1, none⟩)) w := by
 obtain ⟨u, hu, hok⟩ := td.und
 rw [e] at hok
 obtain ⟨F, rfl, rfl⟩ := hok
 rw [List.getElem?_map] at hp
 obtain ⟨fd, hf, rfl⟩ := Option.map_eq_some_iff.1 hp
 have hf2 : F[f]? = some fd := by simpa using hf
 have sz : ∀ w : World, (sizeOf fd.type).run P w = .ok de.size w := fun w => te.size
 simp [Instr.fieldAt, hu w, hf2, Instr.sureAddr, fieldPlace, sz w, hz, add_lit]
theorem zi3 : ∀ {l : List A} {ts : List T}, agT l = some ts → l = ts.map A.t ∧ ∀ x ∈ ts, x.leaf = true
 | [], ts, h => by
  simp only [agT, Option.some.injEq] at h
  subst h
  exact ⟨rfl, fun _ h => by cases h⟩
 | x :: l, ts, h => by
  cases x with
  | t x =>
   simp only [agT] at h
   split at h
   ·rename_i hl
    obtain ⟨us, hu, rfl⟩ := Option.map_eq_some_iff.1 h
    obtain ⟨h1, h2⟩ := zi3 hu
    exact ⟨by rw [h1]; rfl, fun y hy => by
     rcases List.mem_cons.1 hy with rfl | hy
     ·exact hl
     ·exact h2 y hy⟩
   ·cases h
  | _ => simp [agT] at h
theorem znd {D : Nat → Prop} {o : Nat → O} {ι : Nat → Value} {v : Value} {x : A} {y : T} (h : Ra w D o ι v x) (hy : toT x = some y) : Rt w D v y := by
 cases x with
 | t x =>
  simp only [toT, Option.some.injEq] at hy
  subst hy
  exact h.dat
 | ag l =>
  simp only [toT] at hy
  obtain ⟨ts, ht, rfl⟩ := Option.map_eq_some_iff.1 hy
  obtain ⟨rfl, hl⟩ := zi3 ht
  cases h with
  | ag cs l c hz hc hl2 hr =>
   refine .ag cs ts c (by rw [hz, List.length_map]) (fun j hj => hc j (by rw [List.length_map]; exact hj)) (fun j t ht => hl t (List.mem_of_getElem? ht)) (fun j t ht => ?_)
   exact (hr j (.t t) (by rw [List.getElem?_map, ht]; rfl)).dat
 | _ => simp [toT] at hy
theorem zne (hT : Tys.ok P tt) {D : Nat → Prop} {o : Nat → O} {ι : Nat → Value} {x : A} {u : Value} (hx : Ra w D o ι u x) (op : BinOp) (ty : TypeId) (ox : Operand) (K : A → Prop) (hk : zc2 tt op ty x K) :
  ∃ r z, (do eqGuard op ty ox (.const .nilIface) u .nilIface; binOp op ty u .nilIface).run P w = .ok r w ∧ Ra w D o ι r z ∧ K z := by
 unfold zc2 at hk
 obtain ⟨d, hd, hk⟩ := zE hk
 obtain ⟨u2, hu, hok, _⟩ := (hT _ _ hd).desc
 have hki : d.k = .iface := by
  revert hk
  cases d.k <;> intro hk <;> first | rfl | exact False.elim hk
 rw [hki] at hk hok
 obtain ⟨ms, rfl⟩ := hok
 have key : P.underlying ty = some (.interface (P.methodsAt ty)) := by simp [Program.methodsAt, hu]
 have gd : ∀ (op : BinOp) (t2 : TypeId) (v : Value), (eqGuard op ty ox (.const .nilIface) (.iface t2 v) .nilIface).run P w = .ok () w := fun op t2 v => by cases op <;> cases ox <;> rfl
 have gn : ∀ (op : BinOp), (eqGuard op ty ox (.const .nilIface) .nilIface .nilIface).run P w = .ok () w := fun op => by cases op <;> cases ox <;> rfl
 cases hx with
 | t hr =>
  cases hr with
  | ifc t2 v y hr =>
   rw [Sem.run_bind, gd]
   simp only [Result.andThen]
   cases op <;> first | exact False.elim hk | skip
   ·exact ⟨.bool false, _, run_eql_held_nil w ty t2 v key, .t (.b _), hk⟩
   ·exact ⟨.bool true, _, run_neq_held_nil w ty t2 v key, .t (.b _), hk⟩
  | nif =>
   rw [Sem.run_bind, gn]
   simp only [Result.andThen]
   cases op <;> first | exact False.elim hk | skip
   ·exact ⟨.bool true, _, by simp [binOp, run_equal_nil_nil w ty key], .t (.b _), hk⟩
   ·exact ⟨.bool false, _, by simp [binOp, run_equal_nil_nil w ty key], .t (.b _), hk⟩
  | _ => exact False.elim hk
 | _ => exact False.elim hk
theorem znf (hT : Tys.ok P tt) (h : Rel Hy X B St w0 Dp s ι a w) (o : Oper) (K : A → Prop) (hk : Pk tt o.op s K) :
  ∃ v y, (execOp a.eval o).run P w = .ok (.value v) w ∧ Ra w (Sd B St s.o ι w) s.o ι v y ∧ K y := by
 obtain ⟨dst, op, type, pos, after, guard⟩ := o
 have val : ∀ {x : Sem Value}, Does P B St s ι w K x → ∃ v y, ((do pure (.value (← x)) : Sem Next)).run P w = .ok (.value v) w ∧ Ra w (Sd B St s.o ι w) s.o ι v y ∧ K y :=
  fun ⟨v, y, h1, h2, h3⟩ => ⟨v, y, zbW _ h1, h2, h3⟩
 cases op
 case move x => exact ⟨_, _, rfl, h.ev x, hk⟩
 case assign x => exact ⟨_, _, rfl, h.ev x, hk⟩
 case pick c x y =>
  simp only [Pk] at hk
  split at hk
  ·rename_i q e
   have hc := h.ev c
   rw [e] at hc
   have hv := hc.bool
   cases q
   ·exact ⟨a.eval y, _, by simp [execOp, hv, asBool], h.ev y, hk.2 rfl⟩
   ·exact ⟨a.eval x, _, by simp [execOp, hv, asBool], h.ev x, hk.1 rfl⟩
  ·exact hk.elim
 case load ty x => exact val (ziS hT h ty x K hk)
 case fieldAddr st x f =>
  refine val ?_
  obtain ⟨d, hd, hk⟩ := zE hk
  split at hk
  ·rename_i fs e
   obtain ⟨p, hp, hk⟩ := zE hk
   obtain ⟨de, hde, hk⟩ := zE hk
   obtain ⟨hz, hk⟩ := hk
   have hx := h.ev x
   split at hk
   ·rename_i id g off e2
    rw [e2] at hx
    obtain ⟨hg, hc, hk⟩ := hk
    obtain ⟨blk, hi, hv⟩ := hx.ptr_get hg
    rw [hv]
    exact .of (zfY (hT _ _ hd) e hp (hT _ _ hde) hz blk off) (.ptr (Nat.le_of_eq hg) (fun _ => ⟨blk, hi, rfl⟩) rfl) hk
   ·rename_i l e2
    rw [e2] at hx
    obtain ⟨hle, hk⟩ := hk
    have hx := hx.dat
    generalize hv : a.eval x = v at hx
    cases hx with
    | cp blk off l c hD hc hl hr =>
    refine .of (zfY (hT _ _ hd) e hp (hT _ _ hde) hz blk off) (.t (.cp blk _ _ (fun j => c (p.1 + j)) hD (fun j hj => ?_) (fun j t ht => ?_) (fun j t ht => ?_))) hk
    ·rw [Nat.add_assoc]
     exact hc _ (by simp at hj; omega)
    ·rw [List.getElem?_drop] at ht
     exact hl _ t ht
    ·rw [List.getElem?_drop] at ht
     exact hr _ t ht
   ·rename_i id g z i off e2
    rw [e2] at hx
    obtain ⟨hg, hc, hk⟩ := hk
    obtain ⟨blk, n, cap, hi, hv⟩ := hx.rp_get hg
    rw [hv]
    refine .of (zfY (hT _ _ hd) e hp (hT _ _ hde) hz blk _) (.rp (Nat.le_of_eq hg) (fun _ => ⟨blk, n, cap, hi, ?_⟩)) hk
    rw [Nat.add_assoc]
   ·exact hk.elim
  ·exact hk.elim
 case field st x f =>
  refine val ?_
  obtain ⟨d, hd, hk⟩ := zE hk
  split at hk
  ·rename_i fs e
   obtain ⟨p, hp, hk⟩ := zE hk
   obtain ⟨de, hde, hk⟩ := zE hk
   have td := hT _ _ hd
   have te := hT _ _ hde
   obtain ⟨u, hu, hok⟩ := td.und
   rw [e] at hok
   obtain ⟨F, rfl, rfl⟩ := hok
   rw [List.getElem?_map] at hp
   obtain ⟨fd, hf, rfl⟩ := Option.map_eq_some_iff.1 hp
   have hf2 : F[f]? = some fd := by simpa using hf
   have run : ∀ cs : Array Value, (∀ j, j < (if de.agg then de.size else 1) → (cs[fd.offset + j]?).isSome = true) → (Instr.field st (.agg cs) f).run P w = .ok (if de.agg then .agg ((List.range de.size).map fun j => cs.getD (fd.offset + j) undef).toArray else cs.getD (fd.offset + 0) undef) w := fun cs hcs => by
    have ia : (isAgg fd.type).run P w = .ok de.agg w := te.isAgg
    have sz : (sizeOf fd.type).run P w = .ok de.size w := te.size
    simp only [Instr.field, Sem.run_bind, hu w, Result.andThen, hf2, asAgg, Sem.run_pure, part, ia]
    cases hag : de.agg
    ·rw [hag] at hcs
     obtain ⟨c, hc⟩ := Option.isSome_iff_exists.1 (hcs 0 (by simp))
     rw [Nat.add_zero] at hc
     simp [hc, Array.getD_eq_getD_getElem?]
    ·rw [hag] at hcs
     simp only [if_true] at hcs
     simp only [if_true, Sem.run_bind, sz, Result.andThen, Sem.run_pure]
     congr 2
     apply Array.ext_getElem?
     intro j
     rw [Array.getElem?_extract]
     by_cases hj : j < de.size
     ·obtain ⟨c, hc⟩ := Option.isSome_iff_exists.1 (hcs j hj)
      have := (Array.getElem?_eq_some_iff.1 hc).1
      rw [if_pos (by omega), hc]
      simp [hj, Array.getD_eq_getD_getElem?, hc]
     ·rw [if_neg (by omega)]
      simp [hj]
   have hx := h.ev x
   split at hk
   ·rename_i l e2
    rw [e2] at hx
    obtain ⟨y, hy, hk⟩ := zE hk
    obtain ⟨cs, hv, hz, hc⟩ := hx.ag_get
    obtain ⟨t1, t2⟩ := zfV hy _ _ hc
    rw [hv]
    refine .of (run cs t1) (t2 _ (fun j hj => ?_)) hk
    obtain ⟨c, hc⟩ := Option.isSome_iff_exists.1 (t1 j hj)
    simp [Array.getD_eq_getD_getElem?, hc]
   ·rename_i l e2
    rw [e2] at hx
    obtain ⟨y, hy, hk⟩ := zE hk
    obtain ⟨cs, hv, hz, hc⟩ := hx.dat.ag_get
    obtain ⟨t1, t2⟩ := zfW (ι := ι) hy (Sd B St s.o ι w) s.o (fun j => cs.getD j undef) (fun j t ht => by
     obtain ⟨c, hc, hl, hr⟩ := hc j t ht
     refine ⟨hl, ?_⟩
     rw [show cs.getD j undef = c by simp [Array.getD_eq_getD_getElem?, hc]]
     exact hr)
    rw [hv]
    refine .of (run cs (fun j hj => ?_)) t2 hk
    obtain ⟨c, hc, _⟩ := hc _ _ (List.getElem?_eq_getElem (t1 j hj))
    rw [hc]; rfl
   ·exact hk.elim
  ·exact hk.elim
 case unOp u ty x =>
  cases u
  case not =>
   simp only [Pk] at hk
   split at hk
   ·rename_i q e
    have hx := h.ev x
    rw [e] at hx
    have hv := hx.bool
    exact ⟨.bool (!q), _, by simp [execOp, hv, Op.unary], .t (.b _), hk⟩
   ·exact hk.elim
  case neg =>
   simp only [Pk] at hk
   split at hk
   ·rename_i k n e
    have hx := h.ev x
    rw [e] at hx
    have hv := hx.int
    exact ⟨.int k (k.wrap (0 - n)), _, by simp only [execOp, hv, Op.unary, Op.intArith]; rfl, .t (.i _ _), hk⟩
   ·exact hk.elim
  all_goals exact hk.elim
 case extract x i =>
  refine val ?_
  simp only [Pk] at hk
  split at hk
  ·rename_i l e
   have hx := h.ev x
   rw [e] at hx
   obtain ⟨y, hy, hk⟩ := zE hk
   obtain ⟨cs, hv, _, hc⟩ := hx.tup_get
   obtain ⟨c, hc, hr⟩ := hc _ _ hy
   exact .of (v := c) (by simp [hv, Instr.extract, hc]) hr hk
  ·exact hk.elim
 case binOp op ty x y ty' =>
  simp only [Pk] at hk
  split at hk
  ·rename_i e
   have hy : y = .const .nilIface := by
    unfold zfU at e
    split at e
    ·rfl
    ·cases e
   subst hy
   exact val (zne hT (h.ev x) op ty x K hk)
  ·exact val (znb hT (h.ev x) (h.ev y) op ty x y K hk)
 case makeInterface ty x =>
  simp only [Pk] at hk
  obtain ⟨d, hd, hc, hk⟩ := zE hk
  obtain ⟨y, hy, hk⟩ := zE hk
  obtain ⟨u, hu, hok⟩ := (hT _ _ hd).und
  refine val ⟨.iface ty (a.eval x), _, ?_, .t (.ifc ty _ y (znd (h.ev x) hy)), hk⟩
  have hn := TK.conc_ok hc hok
  simp only [Instr.makeInterface, Sem.run_bind, hu w, Result.andThen_ok, Sem.run_pure]
 case typeAssert x xT asserted ok =>
  simp only [Pk] at hk
  obtain ⟨d, hd, hc, hk1⟩ := zE hk
  clear hk
  obtain ⟨u, hu, hok⟩ := (hT _ _ hd).und
  have hn := TK.conc_ok hc hok
  cases ok with
  | true => exact False.elim hk1
  | false =>
   have hx := h.ev x
   cases hxe : s.ev x with
   | t z =>
    rw [hxe] at hk1 hx
    cases z with
    | ifc ty y =>
     obtain ⟨hty, hk2⟩ := hk1
     have hv : ∃ v, a.eval x = .iface ty v ∧ Rt w (Sd B St s.o ι w) v y := by
      generalize a.eval x = v at hx
      cases hx with
      | t hr => cases hr with
       | ifc t2 v y hr => exact ⟨v, rfl, hr⟩
     obtain ⟨v, hv, hr⟩ := hv
     refine val ⟨v, _, ?_, .t hr, hk2⟩
     rw [hv, hty]
     simp only [Instr.typeAssert, Sem.run_bind, hu w, Result.andThen_ok]
     cases u <;> first | exact absurd rfl (hn _) | simp [Sem.run_pure]
    | _ => exact False.elim hk1
   | _ => rw [hxe] at hk1; exact False.elim hk1
 case index ty x ix =>
  refine val ?_
  obtain ⟨d, hd, hk⟩ := zE hk
  split at hk
  ·rename_i e
   obtain ⟨u, hu, hok⟩ := (hT _ _ hd).und
   rw [e] at hok
   simp only [TK.ok] at hok
   subst hok
   split at hk
   ·rename_i b k n e1 e2
    have hx := h.ev x
    have hy := h.ev ix
    rw [e1] at hx
    rw [e2] at hy
    obtain ⟨h0, hk⟩ := hk
    obtain ⟨c, hc, hk⟩ := zE hk
    refine .of (v := .int .u8 (c.toNat : Int)) ?_ (.t (.i _ _)) hk
    rw [hx.str, hy.int]
    have : b[n.toNat]? = some c := by
     have h1 := List.getElem?_eq_some_iff.1 hc
     obtain ⟨h1, h2⟩ := h1
     rw [getElem?_pos b n.toNat (by simpa using h1)]
     simp only [Option.some.injEq]
     rw [← h2]
     rfl
    simp [Instr.index, asIntOf, hu w, h0, this]
   ·exact hk.elim
  ·exact hk.elim
 case convert src dst x =>
  refine val ?_
  obtain ⟨d, hd, hk⟩ := zE hk
  obtain ⟨e, he, hk⟩ := zE hk
  split at hk
  ·rename_i k0 k k' n e1 e2 e3
   obtain ⟨he0, hr, hk⟩ := hk
   obtain ⟨u, hu, hok⟩ := (hT _ _ hd).und
   obtain ⟨u', hu', hok'⟩ := (hT _ _ he).und
   rw [e1] at hok
   rw [e2] at hok'
   simp only [TK.ok] at hok hok'
   subst hok hok'
   have hx := h.ev x
   rw [e3] at hx
   refine .of (v := .int k n) ?_ (.t (.i _ _)) hk
   rw [hx.int]
   simp [convert, hu w, hu' w, Conv.intToInt, zds hr]
  ·exact hk.elim
 case slice ty x lo hi mx =>
  rcases lo with _ | lo <;> rcases hi with _ | hi <;> rcases mx with _ | mx <;> simp only [Pk] at hk
  refine val ?_
  obtain ⟨d, hd, hk⟩ := zE hk
  split at hk
  ·rename_i el e
   obtain ⟨de, hde, hk⟩ := zE hk
   split at hk
   ·rename_i k n e2
    split at hk
    ·rename_i l e3
     obtain ⟨⟨h0, h1⟩, hk⟩ := hk
     obtain ⟨u, hu, hok⟩ := (hT _ _ hd).und
     rw [e] at hok
     simp only [TK.ok] at hok
     subst hok
     have hx := h.ev x
     rw [e3] at hx
     have hy := h.ev hi
     rw [e2] at hy
     have hx2 : Rt w (Sd B St s.o ι w) (a.eval x) (.sl l) := by
      generalize a.eval x = v at hx
      cases hx with
      | t hx => exact hx
     obtain ⟨p, c, g1, g2, g3⟩ := hx2.take h1
     refine .of (v := .slice p n.toNat c) ?_ (.t g3) hk
     have sz : (sizeOf el).run P w = .ok de.size w := (hT _ _ hde).size
     have hb : 0 ≤ n ∧ n ≤ (c : Int) := ⟨h0, by omega⟩
     show (Instr.sliceAt ty (a.eval x) none (some (a.eval hi)) none).run P w = _
     rw [g1, hy.int]
     simp [Instr.sliceAt, Instr.slice, Instr.sliceBounds, Instr.sliceBound, asIntOf, hu w, sz, hb]
     exact fun _ => by cases p <;> simp [Addr.add]
    ·exact hk.elim
   ·exact hk.elim
  ·exact hk.elim
 case call c =>
  obtain ⟨callee, args, tys⟩ := c
  cases callee
  case builtin b =>
   simp only [Pk] at hk
   obtain ⟨v, y, h1, h2, h3⟩ := znc hT h b args.toList tys.toList K hk type (args.map fun | .const _ => true | _ => false)
   refine ⟨v, y, ?_, h2, h3⟩
   rw [show (args.toList.map a.eval).toArray = args.map a.eval by rw [← Array.toList_map, Array.toArray_toList]] at h1
   exact h1
  all_goals exact hk.elim
 case makeFunc f first cap =>
  simp only [Pk] at hk
  split at hk
  ·rename_i f
   refine val ⟨.func (.func f) (first.map a.eval) (cap.map a.eval), .fn f (first.toList.map s.ev) (cap.toList.map s.ev), by simp [Instr.makeFunc], ?_, hk⟩
   have evs : ∀ q : Array Operand, (q.map a.eval).size = (q.toList.map s.ev).length ∧ (∀ j, j < (q.toList.map s.ev).length → (q.map a.eval)[j]? = some ((q.map a.eval).getD j undef)) ∧ ∀ (j : Nat) x, (q.toList.map s.ev)[j]? = some x → Ra w (Sd B St s.o ι w) s.o ι ((q.map a.eval).getD j undef) x := fun q => by
    refine ⟨by simp, fun j hj => ?_, fun j x hx => ?_⟩
    ·simp at hj
     simp [Array.getD_eq_getD_getElem?, hj]
    ·rw [List.getElem?_map] at hx
     obtain ⟨y, hy, rfl⟩ := Option.map_eq_some_iff.1 hx
     have hy2 : q[j]? = some y := by simpa using hy
     rw [show (q.map a.eval).getD j undef = a.eval y by simp [Array.getD_eq_getD_getElem?, hy2]]
     exact h.ev y
   exact .fn f _ _ _ _ _ _ (evs first).1 (evs first).2.1 (evs first).2.2 (evs cap).1 (evs cap).2.1 (evs cap).2.2
  ·exact hk.elim
 case nilCheck x =>
  simp only [Pk] at hk
  have hx := h.ev x
  split at hk
  ·rename_i id g off e
   rw [e] at hx
   obtain ⟨hg, hk⟩ := hk
   obtain ⟨blk, hi, hv⟩ := hx.ptr_get hg
   exact ⟨a.eval x, _, by simp [execOp, hv], hx, hk⟩
  ·rename_i l e
   rw [e] at hx
   obtain ⟨blk, off, hv⟩ := hx.ep_get
   exact ⟨a.eval x, _, by simp [execOp, hv], hx, hk⟩
  ·rename_i id g z i off e
   rw [e] at hx
   obtain ⟨hg, hk⟩ := hk
   obtain ⟨blk, n, cap, hi, hv⟩ := hx.rp_get hg
   exact ⟨a.eval x, _, by simp [execOp, hv], hx, hk⟩
  ·rename_i f l m e
   rw [e] at hx
   obtain ⟨cs, ds, hv, _⟩ := hx.fn_get
   exact ⟨a.eval x, _, by simp [execOp, hv], hx, hk⟩
  ·exact hk.elim
 case indexAddr ty x ix =>
  refine val ?_
  obtain ⟨d, hd, hk⟩ := zE hk
  split at hk
  ·rename_i et e
   obtain ⟨de, hde, hk⟩ := zE hk
   obtain ⟨u, hu, hok⟩ := (hT _ _ hd).und
   rw [e] at hok
   simp only [TK.ok] at hok
   subst hok
   have te := hT _ _ hde
   split at hk
   ·rename_i k n e1
    obtain ⟨h0, hk⟩ := hk
    have hy := h.ev ix
    rw [e1] at hy
    have hi := hy.int
    have run : ∀ (g o len cap : Nat), n.toNat < len → (Instr.indexAt ty (.slice (some ⟨g, o, none⟩) len cap) (.int k n)).run P w = .ok (.pointer (some ⟨g, o + n.toNat * de.size, none⟩)) w := fun g o len cap hl => by
     have sz : (sizeOf et).run P w = .ok de.size w := te.size
     have hn : n < (len : Int) := by omega
     simp [Instr.indexAt, asIntOf, hu w, h0, hn, sz, add_lit]
    have sl : ∀ (v : Value) (l : List (List T)) (c : List T), Rt w (Sd B St s.o ι w) v (.sl l) → l[n.toNat]? = some c → c.length = de.size → ∃ r, (Instr.indexAt ty v (.int k n)).run P w = .ok r w ∧ Ra w (Sd B St s.o ι w) s.o ι r (.t (.cp c)) := fun v l c hr hc hcl => by
     have hlt := (List.getElem?_eq_some_iff.1 hc).1
     cases hr with
     | sl0 p cap _ => simp at hlt
     | sl g o m cap z l f hn hq hD hz hcl2 hl hr =>
      have hzz : z = de.size := by rw [← hcl]; exact (hz c (List.mem_of_getElem? hc)).symm
      subst hzz
      refine ⟨_, run g o m cap (by omega), .t (.cp g _ c (fun j => f (n.toNat * de.size + j)) hD (fun j hj => ?_) (fun j t ht => ?_) (fun j t ht => ?_))⟩
      ·rw [Nat.add_assoc]
       refine hcl2 _ ?_
       calc n.toNat * de.size + j < n.toNat * de.size + de.size := by omega
        _ = (n.toNat + 1) * de.size := by rw [Nat.add_mul]; omega
        _ ≤ l.length * de.size := Nat.mul_le_mul_right _ hlt
      ·exact hl _ t (zcE hz hc ht)
      ·exact hr _ t (zcE hz hc ht)
    have hx := h.ev x
    split at hk
    ·rename_i l e2
     rw [e2] at hx
     obtain ⟨c, hc, hk⟩ := zE hk
     obtain ⟨hcl, hk⟩ := hk
     obtain ⟨r, h1, h2⟩ := sl _ _ _ hx.dat hc hcl
     rw [← hi] at h1
     exact .of h1 h2 hk
    ·rename_i id g e2
     rw [e2] at hx
     obtain ⟨hg, hk⟩ := hk
     have hv := hx.row_get hg
     have ho := h.ob id
     split at hk
     ·rename_i ty' z l hkk
      rw [hkk] at ho
      obtain ⟨hlt, rfl, hk⟩ := hk
      obtain ⟨h1, xs, h2, h3⟩ := ho
      rcases h2.2 with ⟨_, h4⟩ | ⟨g', cap, cur, h4, _⟩
      ·omega
      ·rw [hv, h4, hi]
       refine .of (run g' 0 l.length cap hlt) (.rp (Nat.le_of_eq hg) (fun _ => ⟨g', l.length, cap, h4, ?_⟩)) hk
       rw [Nat.zero_add, Nat.add_zero]
     ·rename_i ty' z l hkk
      rw [hkk] at ho
      obtain ⟨hlt, rfl, hk⟩ := hk
      obtain ⟨h1, xs, h2, h3⟩ := ho
      rcases h2.2 with ⟨_, h4⟩ | ⟨g', cap, cur, h4, _⟩
      ·omega
      ·rw [hv, h4, hi]
       refine .of (run g' 0 l.length cap hlt) (.rp (Nat.le_of_eq hg) (fun _ => ⟨g', l.length, cap, h4, ?_⟩)) hk
       rw [Nat.zero_add, Nat.add_zero]
     ·rename_i l hkk
      rw [hkk] at ho
      obtain ⟨c, hc, hk⟩ := zE hk
      obtain ⟨hcl, hk⟩ := hk
      obtain ⟨r, h1, h2⟩ := sl _ _ _ ho hc hcl
      rw [← hi, ← hv] at h1
      exact .of h1 h2 hk
     ·exact hk.elim
    ·exact hk.elim
   ·exact hk.elim
  ·rename_i m et e
   obtain ⟨de, hde, hk⟩ := zE hk
   obtain ⟨u, hu, hok⟩ := (hT _ _ hd).und
   rw [e] at hok
   simp only [TK.ok] at hok
   subst hok
   have te := hT _ _ hde
   split at hk
   ·rename_i k n e1
    obtain ⟨⟨h0, hm⟩, hk⟩ := hk
    have hy := h.ev ix
    rw [e1] at hy
    have hi := hy.int
    have run : ∀ (g o : Nat), (Instr.indexAt ty (.pointer (some ⟨g, o, none⟩)) (.int k n)).run P w = .ok (.pointer (some ⟨g, o + n.toNat * de.size, none⟩)) w := fun g o => by
     have sz : ∀ w : World, (sizeOf et).run P w = .ok de.size w := fun w => te.size
     simp [Instr.indexAt, asIntOf, hu w, Instr.sureAddr, h0, hm, sz w, add_lit]
    have hx := h.ev x
    split at hk
    ·rename_i id g off e2
     rw [e2] at hx
     obtain ⟨hg, hc, hk⟩ := hk
     obtain ⟨blk, hib, hv⟩ := hx.ptr_get hg
     rw [hv, hi]
     exact .of (run blk off) (.ptr (Nat.le_of_eq hg) (fun _ => ⟨blk, hib, rfl⟩) rfl) hk
    ·rename_i l e2
     rw [e2] at hx
     obtain ⟨hle, hk⟩ := hk
     have hx := hx.dat
     rw [hi]
     generalize hv : a.eval x = v at hx
     cases hx with
     | cp blk off l c hD hc hl hr =>
     refine .of (run blk off) (.t (.cp blk _ _ (fun j => c (n.toNat * de.size + j)) hD (fun j hj => ?_) (fun j t ht => ?_) (fun j t ht => ?_))) hk
     ·rw [Nat.add_assoc]
      exact hc _ (by simp at hj; omega)
     ·rw [List.getElem?_drop] at ht
      exact hl _ t ht
     ·rw [List.getElem?_drop] at ht
      exact hr _ t ht
    ·rename_i id g z i off e2
     rw [e2] at hx
     obtain ⟨hg, hc, hk⟩ := hk
     obtain ⟨blk, n', cap, hib, hv⟩ := hx.rp_get hg
     rw [hv, hi]
     refine .of (run blk _) (.rp (Nat.le_of_eq hg) (fun _ => ⟨blk, n', cap, hib, ?_⟩)) hk
     rw [Nat.add_assoc]
    ·exact hk.elim
   ·exact hk.elim
  ·exact hk.elim
 all_goals exact hk.elim
end
end Go.Proofs.YtbhoeanfnbkenaaGreatDoor
