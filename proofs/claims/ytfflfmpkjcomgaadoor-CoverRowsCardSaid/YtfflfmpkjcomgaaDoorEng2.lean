/- The engine, 2: operations that turn no object. -/
import Derived.Test.YtfflfmpkjcomgaaDoorEng1
import Derived.Deep.MidRow
namespace Go.Proofs.YtfflfmpkjcomgaaDoor
open Go.RowKit

def constC : Value → A
  | .bool x => .t (.b x)
  | .int k n => .t (.i k n)
  | .string x => .t (.s x)
  | .slice none 0 0 => .nilS
  | .pointer none => .t .np
  | .nilIface => .t .nif
  | _ => .junk
def constA : Value → A
  | .agg cs => if (cs.toList.map constC).all A.leaf = true then .ag (cs.toList.map constC) else .junk
  | v => constC v
def S.ev (s : S) : Operand → A
  | .tmp t => if t < s.n then s.t t else .junk
  | .const v => constA v
  | .func f => .fn f [] []
  | _ => .junk

/-- what is known of a type -/
inductive TK where
  | bool | int (k : IntKind) | string
  | slice (e : TypeId)
  | array (n : Nat) (e : TypeId)
  | struct (fs : List (Nat × TypeId))
  | map (k e : TypeId)
  | iface
  | other
structure TD where
  size : Nat
  bytes : Nat
  agg : Bool
  k : TK
  zero : List Value
  eq : Bool
def TK.ok (d : TypeDesc) : TK → Prop
  | .bool => d = .bool
  | .int k => d = .int k
  | .string => d = .string
  | .slice e => d = .slice e
  | .array n e => d = .array n e
  | .struct fs => ∃ F, d = .struct F ∧ F.toList.map (fun f => (f.offset, f.type)) = fs
  | .map k e => d = .map k e
  | .iface => ∃ ms, d = .interface ms
  | .other => True
/-- neither an interface nor a type of which nothing is known -/
def TK.conc : TK → Bool
  | .iface => false
  | .other => false
  | _ => true
theorem TK.conc_ok {k : TK} {d : TypeDesc} (h : k.conc = true) (hd : k.ok d) (ms : Array (String × TypeId)) : d ≠ .interface ms := by
  cases k <;> simp [TK.conc, TK.ok] at h hd <;> first | (rw [hd]; simp) | (obtain ⟨F, rfl, _⟩ := hd; simp)
/-- data out of a struct's cells -/
def agT : List A → Option (List T)
  | [] => some []
  | .t x :: l => if x.leaf = true then (agT l).map (x :: ·) else none
  | _ => none
def toT : A → Option T
  | .t x => some x
  | .ag l => (agT l).map T.ag
  | _ => none
structure TdOk (P : Program) (t : TypeId) (d : TD) : Prop where
  info : ∃ i z, P.info? t = some i ∧ i.size = d.size ∧ i.bytes = d.bytes ∧ i.zero = some z ∧ z.cells.toList = d.zero
  desc : ∃ u, P.underlying t = some u ∧ d.k.ok u ∧ (match u with | .struct _ | .array _ _ => true | _ => false) = d.agg
  eqs : d.eq = true → P.stoodInHeld t = false ∧ ∀ F, P.underlying t = some (.struct F) → ∀ f ∈ F.toList, f.name ≠ "_"
/-- types that are known -/
abbrev Tys := TypeId → Option TD
def Tys.ok (P : Program) (tt : Tys) : Prop := ∀ t d, tt t = some d → TdOk P t d

def optK {α : Type} (x : Option α) (K : α → Prop) : Prop := match x with
  | some y => K y
  | none => False
theorem optK_get {α : Type} {x : Option α} {K : α → Prop} (h : optK x K) : ∃ y, x = some y ∧ K y := by
  cases x with
  | none => exact h.elim
  | some y => exact ⟨y, rfl, h⟩

def takeA (agg : Bool) (l : List A) (off n : Nat) : Option A := match agg with
  | true => if off + n ≤ l.length then some (.ag ((l.drop off).take n)) else none
  | false => l[off]?
def takeT (agg : Bool) (l : List T) (off n : Nat) : Option A := match agg with
  | true => if off + n ≤ l.length then some (.t (.ag ((l.drop off).take n))) else none
  | false => (l[off]?).map .t

theorem inR_wrap {k : IntKind} {n : Int} (h : inR k n) : k.wrap n = n := by
  cases k <;> simp only [inR] at h <;> simp [IntKind.wrap, IntKind.bits, IntKind.signed] <;> omega

def bitI (op : BinOp) (k : IntKind) (a b : Int) : Int := k.wrap (match op with
  | .and => (BitVec.ofInt k.bits a &&& BitVec.ofInt k.bits b).toNat
  | .or => (BitVec.ofInt k.bits a ||| BitVec.ofInt k.bits b).toNat
  | .xor => (BitVec.ofInt k.bits a ^^^ BitVec.ofInt k.bits b).toNat
  | _ => (BitVec.ofInt k.bits a &&& ~~~BitVec.ofInt k.bits b).toNat)
/-- keys, read off what a temporary holds -/
def kyI (k : IntKind) : List A → Option (List Int)
  | [] => some []
  | .t (.i k' n) :: l => if k' = k then (kyI k l).map (n :: ·) else none
  | _ => none
def kyG : List A → Option Ky
  | .t (.i k n) :: l => (kyI k (.t (.i k n) :: l)).map (.a k)
  | _ => none
def kyA : A → Option Ky
  | .t (.i k n) => some (.i k n)
  | .t (.s x) => some (.s x)
  | .t (.ag l) => kyG (l.map .t)
  | .ag l => kyG l
  | _ => none
/-- cells, compared -/
def eqF : TK → T → T → Option Bool
  | .int _, .i k a, .i k' b => if k = k' then some (decide (a = b)) else none
  | .string, .s a, .s b => some (decide (a = b))
  | .bool, .b a, .b b => some (a == b)
  | _, _, _ => none
def agA : A → Option (List A)
  | .t (.ag l) => some (l.map .t)
  | .ag l => some l
  | _ => none
def tF : A → Option T
  | .t x => some x
  | _ => none
/-- structs of cells, compared -/
def strK (tt : Tys) (l m : List A) : List (Nat × TypeId) → Option Bool
  | [] => some true
  | p :: fs => (tt p.2).bind fun d => if d.agg = false then ((l[p.1]?).bind tF).bind fun x => ((m[p.1]?).bind tF).bind fun y => (eqF d.k x y).bind fun b => (strK tt l m fs).map (b && ·) else none
/-- arrays of integers, compared -/
def arrK (tt : Tys) (op : BinOp) (ty : TypeId) (x y : A) (K : A → Prop) : Prop := optK (tt ty) fun d => match d.k with
  | .array n e => optK (tt e) fun de => match de.k with
    | .int q => (de.size = 1 ∧ de.agg = false) ∧ optK (kyA x) fun a => optK (kyA y) fun b => match a, b with
      | .a k l, .a k' m => (k = q ∧ k' = q ∧ l.length = n ∧ m.length = n) ∧ match op with
        | .eql => K (.t (.b (decide (l = m))))
        | .neq => K (.t (.b (!decide (l = m))))
        | _ => False
      | _, _ => False
    | _ => False
  | .struct fs => d.eq = true ∧ optK (agA x) fun l => optK (agA y) fun m => optK (strK tt l m fs) fun b => match op with
    | .eql => K (.t (.b b))
    | .neq => K (.t (.b (!b)))
    | _ => False
  | _ => False
def binK (tt : Tys) (op : BinOp) (ty : TypeId) (x y : A) (K : A → Prop) : Prop := match x, y with
  | .t (.i k a), .t (.i k' b) => k = k' ∧ match op with
    | .add => inR k (a + b) ∧ K (.t (.i k (a + b)))
    | .sub => inR k (a - b) ∧ K (.t (.i k (a - b)))
    | .mul => inR k (a * b) ∧ K (.t (.i k (a * b)))
    | .quo => b ≠ 0 ∧ inR k (a.tdiv b) ∧ K (.t (.i k (a.tdiv b)))
    | .rem => b ≠ 0 ∧ K (.t (.i k (a.tmod b)))
    | .eql => K (.t (.b (decide (a = b))))
    | .neq => K (.t (.b (!decide (a = b))))
    | .lss => K (.t (.b (decide (a < b))))
    | .leq => K (.t (.b (decide (a ≤ b))))
    | .gtr => K (.t (.b (decide (b < a))))
    | .geq => K (.t (.b (decide (b ≤ a))))
    | .and => K (.t (.i k (bitI .and k a b)))
    | .or => K (.t (.i k (bitI .or k a b)))
    | .xor => K (.t (.i k (bitI .xor k a b)))
    | .andNot => K (.t (.i k (bitI .andNot k a b)))
    | _ => False
  | .t (.s a), .t (.s b) => match op with
    | .eql => K (.t (.b (decide (a = b))))
    | .neq => K (.t (.b (!decide (a = b))))
    | .add => a.size + b.size ≤ 9223372036854775807 ∧ K (.t (.s (a ++ b)))
    | .lss => K (.t (.b (Op.bytesLess a.toList b.toList)))
    | .leq => K (.t (.b (Op.bytesLess a.toList b.toList || decide (a = b))))
    | .gtr => K (.t (.b (!(Op.bytesLess a.toList b.toList || decide (a = b)))))
    | .geq => K (.t (.b (!Op.bytesLess a.toList b.toList)))
    | _ => False
  | .t (.b a), .t (.b b) => optK (tt ty) fun d => d.k = .bool ∧ match op with
    | .eql => K (.t (.b (a == b)))
    | .neq => K (.t (.b (a != b)))
    | _ => False
  | x, y => arrK tt op ty x y K

def biK (tt : Tys) (b : Builtin) (args : List A) (tys : List TypeId) (s : S) (K : A → Prop) : Prop := match b, args, tys with
  | .len, [x], [ty] => optK (tt ty) fun d => match d.k, x with
    | .string, .t (.s b) => K (.t (.i .i64 (b.size : Int)))
    | .slice _, .t (.sl l) => K (.t (.i .i64 (l.length : Int)))
    | .slice _, .nilS => K (.t (.i .i64 0))
    | .slice _, .row id g => g = (s.o id).gen ∧ match (s.o id).k with
      | .row _ _ l => K (.t (.i .i64 (l.length : Int)))
      | .rowA _ _ l => K (.t (.i .i64 (l.length : Int)))
      | .ro l => K (.t (.i .i64 (l.length : Int)))
      | _ => False
    | _, _ => False
  | .cap, [x], [ty] => optK (tt ty) fun d => match d.k, x with
    | .slice _, .nilS => K (.t (.i .i64 0))
    | _, _ => False
  | .max, [x, y], _ => match x, y with
    | .t (.i k a), .t (.i k' b) => k = k' ∧ K (.t (.i k (if a < b then b else a)))
    | _, _ => False
  | .min, [x, y], _ => match x, y with
    | .t (.i k a), .t (.i k' b) => k = k' ∧ K (.t (.i k (if b < a then b else a)))
    | _, _ => False
  | _, _, _ => False

def isNilI : Operand → Bool
  | .const .nilIface => true
  | _ => false
/-- an interface against nil -/
def nilI (tt : Tys) (op : BinOp) (ty : TypeId) (x : A) (K : A → Prop) : Prop := optK (tt ty) fun d => match d.k, x, op with
  | .iface, .t (.ifc _ _), .eql => K (.t (.b false))
  | .iface, .t (.ifc _ _), .neq => K (.t (.b true))
  | .iface, .t .nif, .eql => K (.t (.b true))
  | .iface, .t .nif, .neq => K (.t (.b false))
  | _, _, _ => False
def Pk (tt : Tys) (op : Op) (s : S) (K : A → Prop) : Prop := match op with
  | .move x => K (s.ev x)
  | .assign x => K (s.ev x)
  | .pick c x y => match s.ev c with
    | .t (.b q) => (q = true → K (s.ev x)) ∧ (q = false → K (s.ev y))
    | _ => False
  | .load ty x => optK (tt ty) fun d => match s.ev x with
    | .ptr id g off => g = (s.o id).gen ∧ match (s.o id).k with
      | .cells _ l => optK (takeA d.agg l off d.size) K
      | _ => False
    | .t (.cp l) => optK (takeT d.agg l 0 d.size) K
    | .rp id g z i off => g = (s.o id).gen ∧ match (s.o id).k with
      | .row _ z' l => z = z' ∧ optK (l[i]?) fun e => optK (takeT d.agg e off d.size) K
      | .rowA _ z' l => z = z' ∧ optK (l[i]?) fun e => optK (takeA d.agg e off d.size) K
      | _ => False
    | _ => False
  | .fieldAddr st x f => optK (tt st) fun d => match d.k with
    | .struct fs => optK (fs[f]?) fun p => optK (tt p.2) fun e => e.size ≠ 0 ∧ match s.ev x with
      | .ptr id g off => g = (s.o id).gen ∧ (match (s.o id).k with | .cells _ _ => True | _ => False) ∧ K (.ptr id g (off + p.1))
      | .t (.cp l) => p.1 ≤ l.length ∧ K (.t (.cp (l.drop p.1)))
      | .rp id g z i off => g = (s.o id).gen ∧ (match (s.o id).k with | .row _ _ _ => True | .rowA _ _ _ => True | _ => False) ∧ K (.rp id g z i (off + p.1))
      | _ => False
    | _ => False
  | .field st x f => optK (tt st) fun d => match d.k with
    | .struct fs => optK (fs[f]?) fun p => optK (tt p.2) fun e => match s.ev x with
      | .ag l => optK (takeA e.agg l p.1 e.size) K
      | .t (.ag l) => optK (takeT e.agg l p.1 e.size) K
      | _ => False
    | _ => False
  | .indexAddr ty x ix => optK (tt ty) fun d => match d.k with
    | .slice e => optK (tt e) fun de => match s.ev ix with
      | .t (.i _ n) => 0 ≤ n ∧ match s.ev x with
        | .t (.sl l) => optK (l[n.toNat]?) fun c => c.length = de.size ∧ K (.t (.cp c))
        | .row id g => g = (s.o id).gen ∧ match (s.o id).k with
          | .row _ z l => n.toNat < l.length ∧ z = de.size ∧ K (.rp id g z n.toNat 0)
          | .rowA _ z l => n.toNat < l.length ∧ z = de.size ∧ K (.rp id g z n.toNat 0)
          | .ro l => optK (l[n.toNat]?) fun c => c.length = de.size ∧ K (.t (.cp c))
          | _ => False
        | _ => False
      | _ => False
    | .array m e => optK (tt e) fun de => match s.ev ix with
      | .t (.i _ n) => (0 ≤ n ∧ n < m) ∧ match s.ev x with
        | .ptr id g off => g = (s.o id).gen ∧ (match (s.o id).k with | .cells _ _ => True | _ => False) ∧ K (.ptr id g (off + n.toNat * de.size))
        | .t (.cp l) => n.toNat * de.size ≤ l.length ∧ K (.t (.cp (l.drop (n.toNat * de.size))))
        | .rp id g z i off => g = (s.o id).gen ∧ (match (s.o id).k with | .row _ _ _ => True | .rowA _ _ _ => True | _ => False) ∧ K (.rp id g z i (off + n.toNat * de.size))
        | _ => False
      | _ => False
    | _ => False
  | .index ty x ix => optK (tt ty) fun d => match d.k with
    | .string => match s.ev x, s.ev ix with
      | .t (.s b), .t (.i _ n) => 0 ≤ n ∧ optK (b.data.toList[n.toNat]?) fun c => K (.t (.i .u8 (c.toNat : Int)))
      | _, _ => False
    | _ => False
  | .binOp op ty x y _ => match isNilI y with
    | true => nilI tt op ty (s.ev x) K
    | false => binK tt op ty (s.ev x) (s.ev y) K
  | .makeInterface ty x => optK (tt ty) fun d => d.k.conc = true ∧ optK (toT (s.ev x)) fun y => K (.t (.ifc ty y))
  | .typeAssert x _ asserted ok => optK (tt asserted) fun d => d.k.conc = true ∧ match ok, s.ev x with
    | false, .t (.ifc ty y) => ty = asserted ∧ K (.t y)
    | _, _ => False
  | .unOp .not _ x => match s.ev x with
    | .t (.b q) => K (.t (.b (!q)))
    | _ => False
  | .unOp .neg _ x => match s.ev x with
    | .t (.i k n) => K (.t (.i k (k.wrap (0 - n))))
    | _ => False
  | .extract x i => match s.ev x with
    | .tup l => optK (l[i]?) K
    | _ => False
  | .convert src dst x => optK (tt src) fun d => optK (tt dst) fun e => match d.k, e.k, s.ev x with
    | .int k0, .int k, .t (.i k' n) => k0 = k' ∧ inR k n ∧ K (.t (.i k n))
    | _, _, _ => False
  | .slice ty x none (some hi) none => optK (tt ty) fun d => match d.k with
    | .slice e => optK (tt e) fun _ => match s.ev hi with
      | .t (.i _ n) => match s.ev x with
        | .t (.sl l) => (0 ≤ n ∧ n.toNat ≤ l.length) ∧ K (.t (.sl (l.take n.toNat)))
        | _ => False
      | _ => False
    | _ => False
  | .makeFunc f first cap => match f with
    | .func f => K (.fn f (first.toList.map s.ev) (cap.toList.map s.ev))
    | _ => False
  | .nilCheck x => match s.ev x with
    | .ptr id g off => g = (s.o id).gen ∧ K (.ptr id g off)
    | .t (.cp l) => K (.t (.cp l))
    | .rp id g z i off => g = (s.o id).gen ∧ K (.rp id g z i off)
    | .fn f l m => K (.fn f l m)
    | _ => False
  | .call c => match c.callee with
    | .builtin b => biK tt b (c.args.toList.map s.ev) c.argTypes.toList s K
    | _ => False
  | _ => False

section
variable {P : Program} {tt : Tys} {Hy : World → Prop} {X : World → (Nat → Prop) → (Nat → O) → (Nat → Value) → Prop} {B : Nat} {St : Nat → Prop} {Dp : List Deferred → Prop} {w0 w : World} {s : S} {ι : Nat → Value} {a : Act}

theorem const_c (D : Nat → Prop) (o : Nat → O) (v : Value) : Ra w D o ι v (constC v) := by
  unfold constC
  split <;> first | exact .t (.b _) | exact .t (.i _ _) | exact .t (.s _) | exact .nilS | exact .t .np | exact .t .nif | exact .junk
theorem const_a (D : Nat → Prop) (o : Nat → O) (v : Value) : Ra w D o ι v (constA v) := by
  unfold constA
  split
  · rename_i cs
    split
    · rename_i hl
      refine .ag cs _ (fun j => cs.getD j undef) (by simp) (fun j hj => ?_) (fun j x hx => ?_) (fun j x hx => ?_)
      · simp at hj
        simp [hj]
      · exact List.all_eq_true.1 hl x (List.mem_of_getElem? hx)
      · rw [List.getElem?_map] at hx
        obtain ⟨v, hv, rfl⟩ := Option.map_eq_some_iff.1 hx
        have : cs[j]? = some v := by simpa using hv
        rw [show cs.getD j undef = v by simp [Array.getD_eq_getD_getElem?, this]]
        exact const_c D o v
    · exact .junk
  · exact const_c D o v

theorem Rel.ev (h : Rel Hy X B St w0 Dp s ι a w) (x : Operand) : Ra w (Sd B St s.o ι w) s.o ι (a.eval x) (s.ev x) := by
  cases x with
  | tmp t =>
    show Ra w _ _ _ (a.tmps.getD t undef) (if t < s.n then s.t t else .junk)
    split
    · rename_i ht
      have hl : t < a.tmps.size := by rw [h.sz]; exact ht
      exact h.tm t _ (by simp [Array.getD_eq_getD_getElem?, hl])
    · exact .junk
  | const v => exact const_a _ _ v
  | global g => exact .junk
  | func f => exact .fn f #[] #[] [] [] (fun _ => undef) (fun _ => undef) rfl (fun j hj => absurd hj (Nat.not_lt_zero j)) (fun j x hx => (by simp at hx)) rfl (fun j hj => absurd hj (Nat.not_lt_zero j)) (fun j x hx => (by simp at hx))

theorem Sd.lt {g : Nat} {o : Nat → O} (h : Sd B St o ι w g) : g < w.heap.size := h.2.1

/-- the run of an operation that yields a value -/
theorem run_val (x : Sem Value) {v : Value} {w' : World} (h : x.run P w = .ok v w') : ((do pure (.value (← x)) : Sem Next)).run P w = .ok (.value v) w' := by
  rw [Sem.run_bind, h]
  rfl
theorem run_unit (x : Sem Unit) {w' : World} (h : x.run P w = .ok () w') : ((do x; pure .skip : Sem Next)).run P w = .ok .skip w' := by
  rw [Sem.run_bind, h]
  rfl

theorem run_info {t : TypeId} {i : TypeInfo} (h : P.info? t = some i) : (typeInfo t).run P w = .ok i w := by simp [typeInfo, h]
theorem TdOk.size {t : TypeId} {d : TD} (h : TdOk P t d) : (sizeOf t).run P w = .ok d.size w := by
  obtain ⟨i, z, h1, h2, _⟩ := h.info
  simp [sizeOf, run_info h1, h2]
theorem TdOk.isAgg {t : TypeId} {d : TD} (h : TdOk P t d) : (isAgg t).run P w = .ok d.agg w := by
  obtain ⟨u, h1, _, h2⟩ := h.desc
  unfold Go.isAgg
  rw [Sem.run_bind, run_underlying h1 w]
  simp only [Result.andThen]
  split at h2 <;> simp_all
theorem TdOk.und {t : TypeId} {d : TD} (h : TdOk P t d) : ∃ u, (∀ w : World, (underlying t).run P w = .ok u w) ∧ d.k.ok u := by
  obtain ⟨u, h1, h2, _⟩ := h.desc
  exact ⟨u, fun w => run_underlying h1 w, h2⟩

/-- a variable is loaded: its cells, from an offset on -/
theorem load_cells {t : TypeId} {d : TD} (h : TdOk P t d) (blk off : Nat) (c : Nat → Value) (hc : ∀ j, j < (if d.agg then d.size else 1) → w.cell? ⟨blk, off + j, none⟩ = some (c j)) :
    (loadVar t ⟨blk, off, none⟩).run P w = .ok (if d.agg then .agg ((List.range d.size).map c).toArray else c 0) w := by
  unfold loadVar
  rw [Sem.run_bind, h.isAgg]
  simp only [Result.andThen]
  cases hd : d.agg
  · rw [hd] at hc
    have := hc 0 (by simp)
    simp only [Nat.add_zero] at this
    simp [run_load, this]
  · rw [hd] at hc
    simp only [if_true] at hc ⊢
    rw [Sem.run_bind, h.size]
    simp only [Result.andThen]
    rw [Sem.run_bind]
    have := run_loadCells_list (P := P) w ⟨blk, off, none⟩ ((List.range d.size).map c) (fun j v hv => by
      rw [List.getElem?_map] at hv
      obtain ⟨k, hk, rfl⟩ := Option.map_eq_some_iff.1 hv
      have hk2 := List.getElem?_eq_some_iff.1 hk
      simp at hk2
      obtain ⟨hl, rfl⟩ := hk2
      rw [Addr.add_mid]
      exact hc j hl)
    simp only [List.length_map, List.length_range] at this
    rw [this]
    rfl
end
end Go.Proofs.YtfflfmpkjcomgaaDoor
