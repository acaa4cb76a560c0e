import Derived.Test.YtbhoeanfnbkenaaGreatDoorTys
import Derived.Test.YtbhoeanfnbkenaaGreatDoorEng20
import Derived.Test.YtbhoeanfnbkenaaGreatDoorShelf
namespace Go.Proofs.YtbhoeanfnbkenaaGreatDoor
open Go.RowKit Go.Shelf Go.Lib
set_option maxRecDepth 100000
set_option linter.unusedSimpArgs false
def bL (l : List Bool) : T := .sl (l.map fun x => [.b x])
def sL (l : List ByteArray) : T := .sl (l.map fun x => [.s x])
def Acc (o : Nat → O) (id : Nat) (ty w : Nat) (rows : List (List T)) (x : A) : Prop := (rows = [] ∧ x = .nilS) ∨ ∃ q, x = .row id q ∧ o id = ⟨q, .row ty w rows⟩
section
variable {P : Program} {Hy : World → Prop} {tt : Tys} {cls : Nat → Nat} {s : S} {Q : Exit → S → Prop} {top : Bool} {E : Env}
theorem zcv {x y : Code} (I : S → Prop) (hy : ∀ s, I s → cwp P Hy tt cls E top y Q s) (hx : ∀ N : S → Prop, (∀ s, I s → N s) → cwp P Hy tt cls E top x (z1 N Q) s) : cwp P Hy tt cls E top (.seq x y) Q s := zg (hx _ hy)
end
variable (Hy : World → Prop)
attribute [local irreducible] zU zY cwp z1 z6 lpQ z8 asQ bdQ bdY zab zac zad zaa
def Fr (ids : List Nat) (o o' : Nat → O) : Prop := ∀ i, i ∉ ids → o' i = o i
theorem Fr.refl (ids : List Nat) (o : Nat → O) : Fr ids o o := fun _ _ => rfl
theorem Fr.trans {ids : List Nat} {o o1 o2 : Nat → O} (h : Fr ids o o1) (k : Fr ids o1 o2) : Fr ids o o2 := fun i hi => (k i hi).trans (h i hi)
theorem zk4 {ids : List Nat} {n : Nat} {F : Nat → A} {G : Nat → O} {ts : List (Nat × A)} {os : List (Nat × O)} (h : ∀ p ∈ os.map (·.1), p ∈ ids) : Fr ids G (nf n F G ts os).o := fun _ hi => zaY fun p hp e => hi (e ▸ h p hp)
abbrev Row := List UInt8
def mk (l : Row) : ByteArray := ⟨l.toArray⟩
def rL (l : List Row) : T := .sl (l.map fun r => [.s (mk r)])
theorem zbI (l : Row) : (mk l).size = l.length := by simp [mk, ByteArray.size]
theorem zaZ (l : Row) : (mk l).data.toList = l := by simp [mk]
theorem zk5 {a b : Row} (h : mk a = mk b) : a = b := by rw [← zaZ a, h, zaZ]
theorem zhI (s : ByteArray) : mk s.data.toList = s := by
 cases s
 simp [mk]
theorem zhJ (a b : Row) : mk a ++ mk b = mk (a ++ b) := by
 rw [← zhI (mk a ++ mk b)]
 congr 1
theorem zfw (a b : UInt8) : ((a.toNat : Int) = b.toNat) = (a = b) := by
 apply propext
 constructor
 ·intro h; exact UInt8.toNat_inj.1 (by omega)
 ·intro h; rw [h]
theorem c45 (c : UInt8) : ((c.toNat : Int) = 45) = (c = 45) := zfw c 45
theorem c48 (c : UInt8) : ((c.toNat : Int) = 48) = (c = 48) := zfw c 48
theorem c49 (c : UInt8) : ((c.toNat : Int) = 49) = (c = 49) := zfw c 49
def ixI {α : Type} (p : α → Bool) (l : List α) : Int := match l.findIdx? p with
 | some i => i
 | none => -1
theorem zeq {α : Type} {p : α → Bool} {l : List α} {k : Nat} {x : α} (hx : l[k]? = some x) (hp : p x = true) (hno : ∀ (j : Nat) y, j < k → l[j]? = some y → p y = false) : ixI p l = k := by
 have : l.findIdx? p = some k := by
  rw [List.findIdx?_eq_some_iff_getElem]
  obtain ⟨hk, hk2⟩ := List.getElem?_eq_some_iff.1 hx
  refine ⟨hk, by rw [hk2]; exact hp, fun j hj => ?_⟩
  have := hno j _ hj (List.getElem?_eq_getElem (by omega))
  simp [this]
 unfold ixI
 rw [this]
theorem zfx {α : Type} {p : α → Bool} {l : List α} (hno : ∀ (j : Nat) y, j < l.length → l[j]? = some y → p y = false) : ixI p l = -1 := by
 have : l.findIdx? p = none := by
  rw [List.findIdx?_eq_none_iff]
  intro x hx
  obtain ⟨j, hj⟩ := List.getElem?_of_mem hx
  exact hno j x (List.getElem?_eq_some_iff.1 hj).1 hj
 unfold ixI
 rw [this]
theorem zer {α : Type} (p : α → Bool) (l : List α) : decide (0 ≤ ixI p l) = l.any p := by
 unfold ixI
 cases h : l.findIdx? p with
 | none =>
  rw [List.findIdx?_eq_none_iff] at h
  rw [List.any_eq_false.2 (fun x hx => by rw [h x hx]; decide)]
  decide
 | some i =>
  obtain ⟨hi, hp, _⟩ := List.findIdx?_eq_some_iff_getElem.1 h
  rw [List.any_eq_true.2 ⟨_, List.getElem_mem hi, hp⟩]
  simp
def Fn (f : FuncId) (caps : List A) (o : Nat → O) {α : Type} (e : α → List A) (p : α → Bool) (l : List α) : Prop := ∀ x ∈ l, Cm Tryz.prog Hy f (e x ++ caps) o fun rs o' => rs = [.t (.b (p x))] ∧ o = o'
theorem zk6 (l cs : List UInt8) : trimS l cs = [] ↔ ∀ c ∈ l, c ∈ cs := by
 have key : ∀ (m : List UInt8), m.dropWhile (cs.contains ·) = [] ↔ ∀ c ∈ m, c ∈ cs := fun m => by
  induction m with
  | nil => simp
  | cons a m ih =>
   rw [List.dropWhile_cons]
   by_cases h : a ∈ cs
   ·have hc : cs.contains a = true := by simpa using h
    simp only [hc, if_true, ih, List.mem_cons, forall_eq_or_imp, h, true_and]
   ·have hc : cs.contains a = false := by simpa using h
    simp [hc, h]
 unfold trimS trimLeftS trimRightS
 rw [key]
 constructor
 ·intro h c hc
  by_cases hn : l.reverse.dropWhile (cs.contains ·) = []
  ·exact (key l.reverse).1 hn c (List.mem_reverse.2 hc)
  ·exfalso
   have hh := List.head_dropWhile_not (p := (cs.contains ·)) (l := l.reverse) hn
   have hm : (l.reverse.dropWhile (cs.contains ·)).head hn ∈ cs := h _ (List.mem_reverse.2 (List.head_mem hn))
   have : cs.contains ((l.reverse.dropWhile (cs.contains ·)).head hn) = true := by simpa using hm
   rw [this] at hh
   cases hh
 ·intro h
  have : l.reverse.dropWhile (cs.contains ·) = [] := (key l.reverse).2 fun c hc => h c (List.mem_reverse.1 hc)
  rw [this]
  simp
theorem zk7 {f : FuncId} {args : List T} {r : T} {v : Value} {cv : List Value} (hf : ∃ fn, Tryz.prog.funcs[f]? = some fn ∧ fn.name ≠ "runtime.NumGoroutine" ∧ fn.body ≠ none) (ha : ∀ (w : World) (D : Nat → Prop) (cargs : Array Value), cargs.size = args.length → (∀ (j : Nat) v t, cargs[j]? = some v → args[j]? = some t → Rt w D v t) → cargs = cv.toArray)
  (hr : ∀ (w : World) (D : Nat → Prop), Rt w D v r) (h : ∀ w, Calls Tryz.prog f cv.toArray w fun e w' => e = .returned v ∧ Below w.heap.size w w') : Ct Tryz.prog Hy f args [r] := by
 refine ⟨hf, fun w cargs D hD _ hsz harg => ?_⟩
 rw [ha w D cargs hsz harg]
 refine (h w).mono ?_
 rintro e w' ⟨rfl, hb⟩
 exact ⟨v, rfl, hr _ _, hb⟩
theorem zk8 {w : World} {D : Nat → Prop} {cargs : Array Value} {a b : ByteArray} (hsz : cargs.size = [T.s a, T.s b].length) (h : ∀ (j : Nat) v t, cargs[j]? = some v → [T.s a, T.s b][j]? = some t → Rt w D v t) : cargs = [Value.string a, Value.string b].toArray := by
 obtain ⟨cl⟩ := cargs
 match cl, hsz with
 | [u1, u2], _ =>
  have h1 := h 0 u1 _ rfl rfl
  have h2 := h 1 u2 _ rfl rfl
  cases h1
  cases h2
  rfl
theorem zk9 (s cs : Row) (hs : s.length ≤ 1000000) (hcs : cs.length ≤ 1000) (hc : ∀ c ∈ cs, c.toNat < 128) : Ct Tryz.prog Hy 74 [.s (mk s), .s (mk cs)] [.s (mk (trimS s cs))] := by
 refine zk7 Hy (v := .string (mk (trimS s cs))) (cv := [.string (mk s), .string (mk cs)]) ⟨_, Tryz.func74, by decide, fun e => absurd (congrArg Option.isSome e) (by decide)⟩ (fun w D cargs => zk8) (fun w D => .s _) fun w => ?_
 have := Any.strings_Trim_laid Tryz.trimL (by kernel_rfl) (mk s) (mk cs) w (by rw [zbI]; omega) (by rw [zbI]; omega) (by rw [zaZ]; exact fun j b hb => hc b (List.mem_of_getElem? hb))
 rw [zaZ, zaZ] at this
 exact this
theorem zhK (l : Row) : (mk l = (⟨#[]⟩ : ByteArray)) = (l = []) := by
 apply propext
 constructor
 ·intro h; exact zk5 (b := []) h
 ·intro h; rw [h]; rfl
theorem zla {f : FuncId} {caps : List A} {o : Nat → O} {p : Row → Bool} {l : List Row} (hl : l.length ≤ 1000000) (h : Fn Hy f caps o (fun x : Row => [.t (.s (mk x))]) p l) :
  Cm Tryz.prog Hy 73 [.t (rL l), .fn f [] caps] o fun rs o' => rs = [.t (.i .i64 (ixI p l))] ∧ o = o' := by
 refine zax (cls := _root_.id) zB zD Tryz.func73 rfl (by decide) (Nat.le_of_ble_eq_true rfl) ?_
 rw [show Tryz.f73.ntmps = 19 from rfl, zC]
 simp only [List.zipIdx_cons, List.zipIdx_nil, List.map_cons, List.map_nil, Nat.reduceAdd, rL]
 repeat' first | apply zg | apply zj | refine zf rfl fun K E hK hE => ?_ | refine zG rfl (by kernel_rfl) fun K E hK hE => ?_ | ((first | refine za fun κ η => ?_ | refine zo rfl fun κ η => ?_ | refine zr (by kernel_rfl) fun κ η => ?_ | refine zK (by kernel_rfl) rfl fun κ η => ?_); simp only [go_sem, simprocAttr]; (repeat refine ⟨by (first | omega | assumption | exact ⟨_, rfl⟩ | exact ⟨_, rfl, rfl⟩), ?_⟩); refine η _ ?_; clear η κ) | (refine zd (hK _ ?_); clear hE hK E K) | apply zb | (refine zH (hK _ ?_); clear hE hK E K) | apply zq | apply zi | apply zt | apply zk | apply zu | apply zw | refine zR rfl ?_ | apply zx | apply zy | apply zJ | apply zL | apply zs | apply zT | apply zX | apply zV | apply zM | apply zN | apply zO | ((first | apply zm | apply zQ); (first | apply zn | apply zS | apply zP); simp only [go_sem, simprocAttr])
 refine zW (fun m s' => ∃ k, m = l.length - k ∧ k ≤ l.length ∧ (∀ (j : Nat) y, j < k → l[j]? = some y → p y = false) ∧ ∃ F, s' = nf 19 F o [(0, .t (rL l)), (1, .fn f [] caps), (7, .t (.i .i64 l.length)), (8, .t (.i .i64 k))] []) l.length ?_ ?_
 ·exact ⟨0, by omega, by omega, fun j x hj => absurd hj (Nat.not_lt_zero j), _, zp rfl ⟨rfl, rfl, rfl, rfl, trivial⟩ trivial⟩
 ·rintro m s' ⟨k, rfl, hk, hno, F, rfl⟩
  simp only [rL]
  repeat' first | apply zg | apply zj | refine zf rfl fun K E hK hE => ?_ | refine zG rfl (by kernel_rfl) fun K E hK hE => ?_ | ((first | refine za fun κ η => ?_ | refine zo rfl fun κ η => ?_ | refine zr (by kernel_rfl) fun κ η => ?_ | refine zK (by kernel_rfl) rfl fun κ η => ?_); simp only [go_sem, simprocAttr]; (repeat refine ⟨by (first | omega | assumption | exact ⟨_, rfl⟩ | exact ⟨_, rfl, rfl⟩), ?_⟩); refine η _ ?_; clear η κ) | (refine zd (hK _ ?_); clear hE hK E K) | apply zb | (refine zH (hK _ ?_); clear hE hK E K) | apply zq | apply zi | apply zt | apply zk | apply zu | apply zw | refine zR rfl ?_ | apply zx | apply zy | apply zJ | apply zL | apply zs | apply zT | apply zX | apply zV | apply zM | apply zN | apply zO | ((first | apply zm | apply zQ); (first | apply zn | apply zS | apply zP); simp only [go_sem, simprocAttr])
  refine zh _ rfl (fun hq => ?_) (fun hq => ?_)
  ·simp only [decide_eq_true_eq] at hq
   obtain ⟨x, hx⟩ : ∃ x, l[k]? = some x := ⟨_, List.getElem?_eq_getElem (by omega)⟩
   repeat' first | apply zg | apply zj | refine zf rfl fun K E hK hE => ?_ | refine zG rfl (by kernel_rfl) fun K E hK hE => ?_ | ((first | refine za fun κ η => ?_ | refine zo rfl fun κ η => ?_ | refine zr (by kernel_rfl) fun κ η => ?_ | refine zK (by kernel_rfl) rfl fun κ η => ?_); simp only [go_sem, simprocAttr, hx]; (repeat refine ⟨by (first | omega | assumption | exact ⟨_, rfl⟩ | exact ⟨_, rfl, rfl⟩), ?_⟩); refine η _ ?_; clear η κ) | (refine zd (hK _ ?_); clear hE hK E K) | apply zb | (refine zH (hK _ ?_); clear hE hK E K) | apply zq | apply zi | apply zt | apply zk | apply zu | apply zw | refine zR rfl ?_ | apply zx | apply zy | apply zJ | apply zL | apply zs | apply zT | apply zX | apply zV | apply zM | apply zN | apply zO | ((first | apply zm | apply zQ); (first | apply zn | apply zS | apply zP); simp only [go_sem, simprocAttr, hx])
   refine zaj fun κ η => ?_; simp only [go_sem, simprocAttr]; refine ⟨_, h x (List.mem_of_getElem? hx), ?_⟩; rintro _ _ ⟨rfl, rfl⟩; simp only [go_sem, simprocAttr]; refine η _ ?_; clear η κ
   repeat' first | apply zg | apply zj | refine zf rfl fun K E hK hE => ?_ | refine zG rfl (by kernel_rfl) fun K E hK hE => ?_ | ((first | refine za fun κ η => ?_ | refine zo rfl fun κ η => ?_ | refine zr (by kernel_rfl) fun κ η => ?_ | refine zK (by kernel_rfl) rfl fun κ η => ?_); simp only [go_sem, simprocAttr]; (repeat refine ⟨by (first | omega | assumption | exact ⟨_, rfl⟩ | exact ⟨_, rfl, rfl⟩), ?_⟩); refine η _ ?_; clear η κ) | (refine zd (hK _ ?_); clear hE hK E K) | apply zb | (refine zH (hK _ ?_); clear hE hK E K) | apply zq | apply zi | apply zt | apply zk | apply zu | apply zw | refine zR rfl ?_ | apply zx | apply zy | apply zJ | apply zL | apply zs | apply zT | apply zX | apply zV | apply zM | apply zN | apply zO | ((first | apply zm | apply zQ); (first | apply zn | apply zS | apply zP); simp only [go_sem, simprocAttr])
   refine zh _ rfl (fun hq2 => ?_) (fun hq2 => ?_)
   ·repeat' first | apply zg | apply zj | refine zf rfl fun K E hK hE => ?_ | refine zG rfl (by kernel_rfl) fun K E hK hE => ?_ | ((first | refine za fun κ η => ?_ | refine zo rfl fun κ η => ?_ | refine zr (by kernel_rfl) fun κ η => ?_ | refine zK (by kernel_rfl) rfl fun κ η => ?_); simp only [go_sem, simprocAttr]; (repeat refine ⟨by (first | omega | assumption | exact ⟨_, rfl⟩ | exact ⟨_, rfl, rfl⟩), ?_⟩); refine η _ ?_; clear η κ) | (refine zd (hK _ ?_); clear hE hK E K) | apply zb | (refine zH (hK _ ?_); clear hE hK E K) | apply zq | apply zi | apply zt | apply zk | apply zu | apply zw | refine zR rfl ?_ | apply zx | apply zy | apply zJ | apply zL | apply zs | apply zT | apply zX | apply zV | apply zM | apply zN | apply zO | ((first | apply zm | apply zQ); (first | apply zn | apply zS | apply zP); simp only [go_sem, simprocAttr])
    rw [zeq hx hq2 hno]
   ·repeat' first | apply zg | apply zj | refine zf rfl fun K E hK hE => ?_ | refine zG rfl (by kernel_rfl) fun K E hK hE => ?_ | ((first | refine za fun κ η => ?_ | refine zo rfl fun κ η => ?_ | refine zr (by kernel_rfl) fun κ η => ?_ | refine zK (by kernel_rfl) rfl fun κ η => ?_); simp only [go_sem, simprocAttr]; (repeat refine ⟨by (first | omega | assumption | exact ⟨_, rfl⟩ | exact ⟨_, rfl, rfl⟩), ?_⟩); refine η _ ?_; clear η κ) | (refine zd (hK _ ?_); clear hE hK E K) | apply zb | (refine zH (hK _ ?_); clear hE hK E K) | apply zq | apply zi | apply zt | apply zk | apply zu | apply zw | refine zR rfl ?_ | apply zx | apply zy | apply zJ | apply zL | apply zs | apply zT | apply zX | apply zV | apply zM | apply zN | apply zO | ((first | apply zm | apply zQ); (first | apply zn | apply zS | apply zP); simp only [go_sem, simprocAttr])
    refine ⟨l.length - (k + 1), by omega, k + 1, rfl, by omega, fun j y hj hy => ?_, _, zp rfl ⟨rfl, rfl, rfl, rfl, trivial⟩ trivial⟩
    rcases Nat.lt_or_eq_of_le (Nat.lt_succ_iff.1 hj) with h | rfl
    ·exact hno j y h hy
    ·rw [hx] at hy; cases hy; exact hq2
  ·simp only [decide_eq_false_iff_not] at hq
   repeat' first | apply zg | apply zj | refine zf rfl fun K E hK hE => ?_ | refine zG rfl (by kernel_rfl) fun K E hK hE => ?_ | ((first | refine za fun κ η => ?_ | refine zo rfl fun κ η => ?_ | refine zr (by kernel_rfl) fun κ η => ?_ | refine zK (by kernel_rfl) rfl fun κ η => ?_); simp only [go_sem, simprocAttr]; (repeat refine ⟨by (first | omega | assumption | exact ⟨_, rfl⟩ | exact ⟨_, rfl, rfl⟩), ?_⟩); refine η _ ?_; clear η κ) | (refine zd (hK _ ?_); clear hE hK E K) | apply zb | (refine zH (hK _ ?_); clear hE hK E K) | apply zq | apply zi | apply zt | apply zk | apply zu | apply zw | refine zR rfl ?_ | apply zx | apply zy | apply zJ | apply zL | apply zs | apply zT | apply zX | apply zV | apply zM | apply zN | apply zO | ((first | apply zm | apply zQ); (first | apply zn | apply zS | apply zP); simp only [go_sem, simprocAttr])
   rw [zfx (fun j y hj hy => hno j y (by omega) hy)]
end Go.Proofs.YtbhoeanfnbkenaaGreatDoor
namespace Go.Proofs.YtbhoeanfnbkenaaGreatDoor
open Go.RowKit Go.WideMaps
theorem zlb {n : Int} (h : inR .i64 n) : (Lit.int .i64 n).wf = true := by
 simp only [inR] at h
 show (decide (IntKind.i64.min ≤ n) && decide (n ≤ IntKind.i64.max)) = true
 rw [show IntKind.i64.min = -9223372036854775808 from by decide, show IntKind.i64.max = 9223372036854775807 from by decide, decide_eq_true h.1, decide_eq_true h.2]
 rfl
theorem zhL {l : List (Nat × O)} {id g : Nat} {x : O} {o : Nat → O} : obx (fun j => zae (l ++ [(id, x)]) j (o j)) id ⟨g, .none⟩ = fun j => zae ((id, ⟨g, .none⟩) :: l) j (o j) := funext fun j => by
 show (if j = id then _ else _) = if j = id then _ else _
 split
 ·rfl
 ·rename_i hj
  induction l with
  | nil => exact if_neg hj
  | cons p l ih => exact congrArg (fun z => if j = p.1 then p.2 else z) ih
end Go.Proofs.YtbhoeanfnbkenaaGreatDoor
