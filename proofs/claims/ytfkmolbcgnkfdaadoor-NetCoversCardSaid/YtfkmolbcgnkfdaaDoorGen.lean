/- Texts of one kind together. -/
import Derived.WalkKit
import Derived.ProofKit
import Derived.Lib.Hide
import Derived.OneCell
import Derived.RangeFuncRecord
import Derived.Below
import Derived.ChangeSame
import Derived.OpenShut
import Derived.ChangeMaps5
import Derived.ChangeShapes
import Derived.Deep.Slices
import Derived.Deep.Fields
import Derived.ChangeStays
import Derived.Laws.AppendOwn
import Derived.Laws.AppendOwnNone
import Derived.OwnWalk
import Derived.OwnWalkIn
import Derived.RangeFuncNested
import Derived.RangeFuncBound
import Derived.RangeFuncCalls
import Derived.Deep.RegionHeld3
/- A block of cells known whole. -/
namespace Go.Proofs.YtfkmolbcgnkfdaaDoor
open Go.RowKit

/-- block B: these cells, of this type, none of them frozen -/
def Blk (W : World) (B : Nat) (vs : Array Value) (t : TypeId) : Prop := W.heap[B]? = some (.cells vs t (0, 0))
theorem Blk.lt {W : World} {B : Nat} {vs : Array Value} {t : TypeId} (h : Blk W B vs t) : B < W.heap.size := (Array.getElem?_eq_some_iff.1 h).1
theorem Blk.cell {W : World} {B : Nat} {vs : Array Value} {t : TypeId} (h : Blk W B vs t) (i : Nat) : W.cell? ⟨B, i, none⟩ = vs[i]? := by simp [World.cell?, show W.heap[B]? = _ from h]
theorem Blk.frozen {W : World} {B : Nat} {vs : Array Value} {t : TypeId} (h : Blk W B vs t) (i : Nat) : W.frozen? ⟨B, i, none⟩ = false := by simp [World.frozen?, show W.heap[B]? = _ from h]
theorem Blk.new (W : World) (vs : Array Value) (t : TypeId) : Blk (W.alloc (.cells vs t)) W.heap.size vs t := World.alloc_heap_new W _
theorem Blk.alloc {W : World} {B : Nat} {vs : Array Value} {t : TypeId} (h : Blk W B vs t) (o : Obj) : Blk (W.alloc o) B vs t := (Below.heap_alloc W o B h.lt).trans h
theorem Blk.below {W W' : World} {n B : Nat} {vs : Array Value} {t : TypeId} (h : Blk W B vs t) (hb : Below n W W') (hB : B < n) : Blk W' B vs t := (hb.block B hB).trans h
theorem Blk.drew {W : World} {B : Nat} {vs : Array Value} {t : TypeId} (h : Blk W B vs t) : Blk W.drew B vs t := h
theorem Blk.set {W : World} {B : Nat} {vs : Array Value} {t : TypeId} (h : Blk W B vs t) (i : Nat) (v : Value) : Blk (W.setCell ⟨B, i, none⟩ v) B (vs.setIfInBounds i v) t := by
  obtain ⟨hlt, hk⟩ := Array.getElem?_eq_some_iff.1 h
  show (W.heap.modify B _)[B]? = _
  rw [Array.getElem?_eq_getElem (by rw [Array.size_modify]; exact hlt), Array.getElem_modify_self, hk]
  rfl
theorem Blk.other {W : World} {B B' : Nat} {vs : Array Value} {t : TypeId} (h : Blk W B vs t) (hne : B ≠ B') (i : Nat) (v : Value) : Blk (W.setCell ⟨B', i, none⟩ v) B vs t :=
  (Below.heap_setCell W ⟨B', i, none⟩ v B hne).trans h
end Go.Proofs.YtfkmolbcgnkfdaaDoor

/- The last step of a law: it returned true in a world that is as it was below what the call began with. -/
namespace Go.Proofs.YtfkmolbcgnkfdaaDoor
open Go.RowKit Go.WideShapes Go.ChangeShapes
variable {H : Type} {enc : TypeId × Value → H} {P : Program}

/-- a law reads no variables, and returns true -/
theorem law_post {f : Func} {s : ChangeSpec} {W W' : World} {args : Array Value} {tb : TypeId} {ds gs : List (DataW H)} {before : List MemPlace}
    (hW : DataW.Whole enc P f.params.toList s.vars false W args.toList ds gs before)
    (ht : f.resultTypes = #[tb]) (hbool : P.underlying tb = some .bool) (hv : s.vars = [])
    (hr : (s.fn H (ds ++ gs)).results = [.lit (.bool true)]) (hvn : (s.fn H (ds ++ gs)).vars = [])
    (hargs : ∀ sp : Nat → Bool, (∀ p ∈ before, sp p.block = true) → DataW.TrodAll enc P W' 0 sp true f.params.toList args.toList (s.fn H (ds ++ gs)).args before)
    (hb : Below W.heap.size W W') : s.post enc P f false true false false W args (.bool true) W' := by
  have hin : ∀ p ∈ before, p.block < W.heap.size := fun _ hp => hW.lt _ hp
  have one : ∀ (b : Nat) (sp : Nat → Bool) (hd : Bool), DataW.TrodAll enc P W' b sp hd f.resultTypes.toList ((Value.bool true).resultList f.resultTypes.size) (s.fn H (ds ++ gs)).results [] := by
    intro b sp hd
    rw [ht, hr]
    exact trodAll_cons_mk (shut_bool hbool _) trodAll_mk0
  have none' : ∀ sp : Nat → Bool, DataW.TrodVars enc P W' sp s.vars (s.fn H (ds ++ gs)).vars [] := by
    intro sp
    rw [hv, hvn]
    rfl
  have hk : W.keptBut W' (fun p => p ∈ before ∧ (p ∈ ([] : List MemPlace) ∨ p ∈ before)) := hb.frame _
  refine ⟨ds, gs, before, [], before, [], hW, one _ _ _, hargs _ (fun p hp => decide_eq_true (hin p hp)), none' _, ?_, fun hg => ?_⟩
  · refine World.keptBut_mono (fun p hp => ⟨hp.1, ?_⟩) hk
    simpa using hp.2
  · cases hg
end Go.Proofs.YtfkmolbcgnkfdaaDoor

/- A slice that reads as a list, whatever its elements; what was handed in reads as one. -/
namespace Go.Proofs.YtfkmolbcgnkfdaaDoor
open Go.RowKit

/-- a slice whose cells are those of this list -/
def Lst {α : Type} (ec : α → List Value) (W : World) (v : Value) (l : List α) : Prop :=
  ∃ b o c, v = .slice b l.length c ∧ (l ≠ [] → ∃ g, b = some ⟨g, o, none⟩ ∧ g < W.heap.size ∧ ∀ j u, (l.flatMap ec)[j]? = some u → W.cell? ⟨g, o + j, none⟩ = some u)
section
variable {α : Type} {ec : α → List Value}
theorem Lst.nil {W : World} : Lst ec W (.slice none 0 0) [] := ⟨none, 0, 0, rfl, fun h => absurd rfl h⟩
theorem Lst.slice {W : World} {v : Value} {l : List α} (h : Lst ec W v l) : ∃ b c, v = .slice b l.length c := by
  obtain ⟨b, o, c, rfl, _⟩ := h
  exact ⟨b, c, rfl⟩
theorem Lst.of_row {W : World} {B : Nat} {e : TypeId} {z : Nat} {v : Value} {l : List α} (h : W.ownsRow B e z v l.length (l.flatMap ec)) : Lst ec W v l := by
  have hl := h
  rcases h.2 with ⟨rfl, hn⟩ | ⟨g, cap, cur, rfl, _⟩
  · exact ⟨none, 0, 0, by rw [hn], fun hne => absurd (List.length_eq_zero_iff.1 hn) hne⟩
  · refine ⟨_, 0, cap, rfl, fun _ => ⟨g, rfl, (hl.lt g rfl).2, fun j u hj => ?_⟩⟩
    have := hl.cells (g := g) rfl j u hj
    rwa [Addr.add_lit] at this
theorem Lst.below {W W' : World} {v : Value} {l : List α} (h : Lst ec W v l) (hb : Below W.heap.size W W') : Lst ec W' v l := by
  obtain ⟨b, o, c, rfl, hh⟩ := h
  refine ⟨b, o, c, rfl, fun hne => ?_⟩
  obtain ⟨g, e, hg, hc⟩ := hh hne
  exact ⟨g, e, Nat.lt_of_lt_of_le hg hb.size, fun j u hj => (hb.cell (p := ⟨g, o + j, none⟩) hg).trans (hc j u hj)⟩
theorem Lst.blk {W : World} {B n cap : Nat} {t : TypeId} {l : List α} (h : Blk W B (l.flatMap ec).toArray t) (hn : n = l.length) : Lst ec W (.slice (some ⟨B, 0, none⟩) n cap) l := by
  subst hn
  refine ⟨_, 0, cap, rfl, fun _ => ⟨B, rfl, h.lt, fun j u hj => ?_⟩⟩
  rw [Nat.zero_add, h.cell j]
  simpa using hj
theorem flat_len {z : Nat} (hz : ∀ x, (ec x).length = z) : ∀ l : List α, (l.flatMap ec).length = l.length * z
  | [] => by simp
  | x :: l => by rw [List.flatMap_cons, List.length_append, hz, flat_len hz l, List.length_cons, Nat.add_mul]; omega
theorem flat_at {z : Nat} (hz : ∀ x, (ec x).length = z) : ∀ (l : List α) (k : Nat) (x : α), l[k]? = some x → ∀ j, j < z → (l.flatMap ec)[k * z + j]? = (ec x)[j]?
  | [], k, x, h, _, _ => by simp at h
  | y :: l, 0, x, h, j, hj => by
    simp only [List.getElem?_cons_zero, Option.some.injEq] at h
    subst h
    rw [List.flatMap_cons, Nat.zero_mul, Nat.zero_add, List.getElem?_append_left (by rw [hz]; exact hj)]
  | y :: l, k + 1, x, h, j, hj => by
    rw [List.flatMap_cons, List.getElem?_append_right (by rw [hz, Nat.add_mul]; omega), hz, show (k + 1) * z + j - z = k * z + j from by rw [Nat.add_mul]; omega]
    exact flat_at hz l k x (by simpa using h) j hj
theorem flat_append (a b : List α) : (a ++ b).flatMap ec = a.flatMap ec ++ b.flatMap ec := List.flatMap_append
theorem flat_take (l : List α) (k : Nat) (x : α) (h : l[k]? = some x) : (l.take (k + 1)).flatMap ec = (l.take k).flatMap ec ++ ec x := by
  rw [List.take_add_one, h, List.flatMap_append]
  simp
theorem list_of {z : Nat} : ∀ (n : Nat) (xs : List Value), xs.length = n * z → (∀ i, i < n → ∃ x, (xs.drop (i * z)).take z = ec x) → ∃ l : List α, l.length = n ∧ xs = l.flatMap ec
  | 0, xs, h, _ => ⟨[], rfl, by simpa using h⟩
  | n + 1, xs, h, hx => by
    obtain ⟨x, h0⟩ := hx 0 (by omega)
    rw [Nat.zero_mul, List.drop_zero] at h0
    have hl : z ≤ xs.length := by rw [h, Nat.add_mul]; omega
    obtain ⟨l, h1, h2⟩ := list_of (z := z) n (xs.drop z) (by rw [List.length_drop, h, Nat.add_mul]; omega) (fun i hi => by
      obtain ⟨y, hy⟩ := hx (i + 1) (by omega)
      exact ⟨y, by rw [List.drop_drop, ← hy, show z + i * z = (i + 1) * z from by rw [Nat.add_mul]; omega]⟩)
    exact ⟨x :: l, by simp [h1], by rw [List.flatMap_cons, ← h0, ← h2, List.take_append_drop]⟩
/-- a cell of an element -/
theorem Lst.at_ {W : World} {v : Value} {l : List α} {z : Nat} (hz : ∀ x, (ec x).length = z) (h : Lst ec W v l) {k : Nat} (hk : k < l.length) :
    ∃ g o c x, l[k]? = some x ∧ v = .slice (some ⟨g, o, none⟩) l.length c ∧ g < W.heap.size ∧ ∀ j, j < z → W.cell? ⟨g, o + k * z + j, none⟩ = (ec x)[j]? := by
  obtain ⟨b, o, c, rfl, hh⟩ := h
  obtain ⟨g, rfl, hg, hc⟩ := hh (fun e => by rw [e] at hk; simp at hk)
  have hx : l[k]? = some l[k] := List.getElem?_eq_getElem hk
  refine ⟨g, o, c, _, hx, rfl, hg, fun j hj => ?_⟩
  have hf := flat_at hz l k _ hx j hj
  have hjl : j < (ec l[k]).length := by rw [hz]; exact hj
  rw [List.getElem?_eq_getElem hjl] at hf ⊢
  rw [Nat.add_assoc]
  exact hc _ _ hf
end

/-- are two lists alike, element by element -/
def eqL {α : Type} (q : α → α → Bool) : List α → List α → Bool
  | [], [] => true
  | x :: l, y :: m => q x y && eqL q l m
  | _, _ => false
theorem eqL_len {α : Type} {q : α → α → Bool} : ∀ (l m : List α), l.length ≠ m.length → eqL q l m = false
  | [], [], h => absurd rfl h
  | x :: l, y :: m, h => by rw [eqL, eqL_len l m (by simpa using h), Bool.and_false]
  | [], _ :: _, _ => rfl
  | _ :: _, [], _ => rfl
theorem eqL_all {α : Type} {q : α → α → Bool} : ∀ (l m : List α), l.length = m.length → (∀ (j : Nat) (x y : α), l[j]? = some x → m[j]? = some y → q x y = true) → eqL q l m = true
  | [], [], _, _ => rfl
  | x :: l, y :: m, h, ha => by
    rw [eqL, ha 0 x y rfl rfl, eqL_all l m (by simpa using h) (fun j a b h1 h2 => ha (j + 1) a b (by simpa using h1) (by simpa using h2))]
    rfl
  | [], _ :: _, h, _ => by simp at h
  | _ :: _, [], h, _ => by simp at h
theorem eqL_no {α : Type} {q : α → α → Bool} : ∀ (l m : List α) (j : Nat) (x y : α), l[j]? = some x → m[j]? = some y → q x y = false → eqL q l m = false
  | x :: l, y :: m, 0, a, b, h1, h2, h => by
    simp only [List.getElem?_cons_zero, Option.some.injEq] at h1 h2
    subst h1 h2
    rw [eqL, h, Bool.false_and]
  | x :: l, y :: m, j + 1, a, b, h1, h2, h => by
    rw [eqL, eqL_no l m j a b (by simpa using h1) (by simpa using h2) h, Bool.and_false]
  | [], _, j, a, b, h1, _, _ => by simp at h1
  | _ :: _, [], j, a, b, _, h2, _ => by simp at h2
theorem eqL_self {α : Type} {q : α → α → Bool} (h : ∀ x, q x x = true) : ∀ l : List α, eqL q l l = true
  | [] => rfl
  | x :: l => by rw [eqL, h, eqL_self h l]; rfl

section
open Go.WideShapes Go.ChangeShapes Go.Deep
variable {H : Type} {enc : TypeId × Value → H} {P : Program} {W : World} {α : Type} {ec : α → List Value}
/-- a slice that was handed in reads as a list, if each of its elements reads as one -/
theorem lst_of_trod {t e : TypeId} {z : Nat} {v : Value} {d : DataW H} {p : List MemPlace} (ht : P.underlying t = some (.slice e)) (hz : P.cellsOf e = z) (hz0 : 0 < z) (hz1 : ∀ x, (ec x).length = z)
    (he : ∀ (n : Nat) (xs : List Value) (y : DataW H × List MemPlace), DataW.trod enc P W 0 (fun _ => true) true n e xs = some y → xs.length = z → ∃ x : α, xs = ec x)
    {n : Nat} (h : DataW.trod enc P W 0 (fun _ => true) true n t [v] = some (d, p)) : ∃ l : List α, Lst ec W v l ∧ l.length ≤ maxLen := by
  rcases open_slice ht h with ⟨h1, _⟩ | ⟨a, len, cap, m, n', D, Pl, hcs, _, hlc, hcm, hm, _, hi⟩
  · obtain rfl : v = .slice none 0 0 := by simpa using h1
    exact ⟨[], Lst.nil, Nat.zero_le _⟩
  · obtain rfl : v = .slice (some a) len cap := by simpa using hcs
    simp only [if_true] at hm
    subst hm
    have hat : ∀ i, i < len → ∃ x : α, ∀ j, j < z → W.cell? (a.add (i * z + j)) = (ec x)[j]? := by
      intro i hi'
      obtain ⟨cs', hc, hy⟩ := hi i (by omega)
      rw [hz] at hc
      obtain ⟨_, hlen, hcell⟩ := World.cells?_some hc
      obtain ⟨x, rfl⟩ := he _ _ _ hy hlen
      refine ⟨x, fun j hj => ?_⟩
      rw [← hcell j hj, Go.Deep.add_add]
    rcases Nat.eq_zero_or_pos len with h0 | h0
    · subst h0
      exact ⟨[], ⟨some a, 0, _, rfl, fun hne => absurd rfl hne⟩, Nat.zero_le _⟩
    · let xs : List Value := (List.range (len * z)).map fun j => (W.cell? (a.add j)).getD undef
      have hxs : xs.length = len * z := by simp [xs]
      have hpart : ∀ i, i < len → ∃ x : α, (xs.drop (i * z)).take z = ec x := by
        intro i hi'
        obtain ⟨x, hx⟩ := hat i hi'
        refine ⟨x, List.ext_getElem? fun j => ?_⟩
        have hle : i * z + z ≤ len * z := by
          have := Nat.mul_le_mul_right z (show i + 1 ≤ len from hi')
          rw [Nat.add_mul, Nat.one_mul] at this
          exact this
        by_cases hj : j < z
        · rw [List.getElem?_take_of_lt hj, List.getElem?_drop]
          have hj' : j < (ec x).length := by rw [hz1]; exact hj
          simp only [xs, List.getElem?_map, List.getElem?_range (show i * z + j < len * z by omega), Option.map_some]
          rw [hx j hj, List.getElem?_eq_getElem hj']
          rfl
        · rw [List.getElem?_eq_none (by simp; omega), List.getElem?_eq_none (by rw [hz1]; omega)]
      obtain ⟨l, hl, hxl⟩ := list_of len xs hxs hpart
      subst hl
      refine ⟨l, ?_, Nat.le_trans hlc hcm⟩
      obtain ⟨x0, hx0⟩ := hat 0 h0
      have hc0 : W.cell? a ≠ none := by
        have := hx0 0 hz0
        rw [Nat.zero_mul, Nat.add_zero] at this
        have ha0 : a.add 0 = a := by simp [Addr.add]
        rw [ha0] at this
        rw [this, List.getElem?_eq_getElem (by rw [hz1]; exact hz0)]
        simp
      obtain ⟨ab, ao, asp⟩ := a
      have hsp : asp = none := by
        rcases asp with _ | s
        · rfl
        · exfalso
          apply hc0
          unfold World.cell?
          split <;> simp
      subst hsp
      refine ⟨_, ao, _, rfl, fun _ => ⟨ab, rfl, ?_, fun j u hj => ?_⟩⟩
      · rcases Nat.lt_or_ge ab W.heap.size with h | h
        · exact h
        · exfalso
          apply hc0
          unfold World.cell?
          rw [Array.getElem?_eq_none h]
      · have hjl : j < l.length * z := by
          have := (List.getElem?_eq_some_iff.1 hj).1
          rwa [flat_len hz1] at this
        have hadd : (⟨ab, ao, none⟩ : Addr).add j = ⟨ab, ao + j, none⟩ := by
          unfold Addr.add
          split
          · rename_i h0; subst h0; rfl
          · rfl
        rw [← hxl] at hj
        simp only [xs, List.getElem?_map, List.getElem?_range hjl, Option.map_some, Option.some.injEq] at hj
        rw [hadd] at hj
        have hsome : ∃ y, W.cell? ⟨ab, ao + j, none⟩ = some y := by
          have hq : j / z < l.length := Nat.div_lt_of_lt_mul (by rw [Nat.mul_comm]; exact hjl)
          obtain ⟨x, hx⟩ := hat (j / z) hq
          have hr := hx (j % z) (Nat.mod_lt _ hz0)
          rw [show j / z * z + j % z = j from by rw [Nat.mul_comm]; exact Nat.div_add_mod j z, hadd] at hr
          exact ⟨_, hr.trans (List.getElem?_eq_getElem (by rw [hz1]; exact Nat.mod_lt _ hz0))⟩
        obtain ⟨y, hy⟩ := hsome
        rw [hy] at hj
        rw [hy, ← hj]
        rfl
theorem open_lst {t e : TypeId} {z : Nat} {r : Reach} {b0 : Nat} {v : Value} {d : DataW H} {p : List MemPlace} (ht : P.underlying t = some (.slice e)) (hz : P.cellsOf e = z) (hz0 : 0 < z) (hz1 : ∀ x, (ec x).length = z)
    (he : ∀ (n : Nat) (xs : List Value) (y : DataW H × List MemPlace), DataW.trod enc P W 0 (fun _ => true) true n e xs = some y → xs.length = z → ∃ x : α, xs = ec x)
    (hv : Value.okWide P W r b0 t v) (h : DataW.Trod enc P W 0 (fun _ => true) true t v d p) : ∃ l : List α, Lst ec W v l ∧ l.length ≤ maxLen := by
  obtain ⟨a, len, cap, rfl⟩ := okWide_slice ht hv
  obtain ⟨n, hn⟩ := h
  exact lst_of_trod ht hz hz0 hz1 he hn
/-- the elements' readings -/
theorem trod_string_is {e : TypeId} {n : Nat} {xs : List Value} {y : DataW H × List MemPlace} (he : P.underlying e = some .string) (h : DataW.trod enc P W 0 (fun _ => true) true n e xs = some y) : ∃ s : ByteArray, xs = [.string s] ∧ s.size ≤ maxLen := by
  cases n with
  | zero => simp [DataW.trod] at h
  | succ n =>
    unfold DataW.trod at h
    rw [he] at h
    split at h <;> simp_all
theorem trod_int_is {e : TypeId} {k : IntKind} {n : Nat} {xs : List Value} {y : DataW H × List MemPlace} (he : P.underlying e = some (.int k)) (h : DataW.trod enc P W 0 (fun _ => true) true n e xs = some y) : ∃ x : Int, xs = [.int k x] ∧ (Lit.int k x).wf = true := by
  cases n with
  | zero => simp [DataW.trod] at h
  | succ n =>
    unfold DataW.trod at h
    rw [he] at h
    split at h <;> simp_all
theorem trod_bool_is {e : TypeId} {n : Nat} {xs : List Value} {y : DataW H × List MemPlace} (he : P.underlying e = some .bool) (h : DataW.trod enc P W 0 (fun _ => true) true n e xs = some y) : ∃ x : Bool, xs = [.bool x] := by
  cases n with
  | zero => simp [DataW.trod] at h
  | succ n =>
    unfold DataW.trod at h
    rw [he] at h
    split at h <;> simp_all
end
end Go.Proofs.YtfkmolbcgnkfdaaDoor

/- What a law was handed reads as it did, whatever its types, where the world is as it was below what the call began with. -/
namespace Go.Proofs.YtfkmolbcgnkfdaaDoor
open Go.RowKit Go.WideShapes Go.ChangeShapes
variable {H : Type} {enc : TypeId × Value → H} {P : Program}

theorem trodAll_stays {T : TypeId → Prop} (K : Kids P T) (hsz : ∀ {t e : TypeId}, T t → P.underlying t = some (.slice e) → 0 < P.cellsOf e) {W W' : World} {sp : Nat → Bool} :
    ∀ (ts : List TypeId) (vs : List Value) (ds : List (DataW H)) (ps : List MemPlace), (∀ t ∈ ts, T t) → DataW.TrodAll enc P W 0 (fun _ => true) true ts vs ds ps → (∀ p ∈ ps, W.sameAt W' p) → (∀ p ∈ ps, sp p.block = true) →
      DataW.TrodAll enc P W' 0 sp true ts vs ds ps
  | [], vs, ds, ps, _, h, _, _ => by
    obtain ⟨rfl, rfl, rfl⟩ := trodAll_nil h
    exact h
  | t :: ts, vs, ds, ps, ht, h, hs, hp => by
    obtain ⟨v, vs, d, ds, a, b, rfl, rfl, rfl, h1, h2⟩ := trodAll_cons h
    obtain ⟨n, h1⟩ := h1
    exact ⟨a, b, ⟨n, DataW.trod_stays K hsz (fun h => by cases h) (ht t (by simp)) h1 (fun p hq => hs p (List.mem_append_left _ hq)) (fun p hq => hp p (List.mem_append_left _ hq))⟩,
      trodAll_stays K hsz ts vs ds b (fun t h => ht t (by simp [h])) h2 (fun p hq => hs p (List.mem_append_right _ hq)) (fun p hq => hp p (List.mem_append_right _ hq)), rfl⟩

theorem sameAt_below {W W' : World} {n : Nat} (hb : Below n W W') {p : MemPlace} (hp : p.block < n) : W.sameAt W' p := by
  cases p with
  | cell b o => exact hb.cell (p := ⟨b, o, none⟩) hp
  | map b => exact hb.block b hp

/-- each slice's elements have cells -/
def slicesB (P : Program) : Bool := (List.range P.types.size).all fun t => match P.underlying t with | some (.slice e) => decide (0 < P.cellsOf e) | _ => true
theorem slices_of {P : Program} (h : slicesB P = true) {t e : TypeId} (ht : t < P.types.size) (hu : P.underlying t = some (.slice e)) : 0 < P.cellsOf e := by
  have := List.all_eq_true.1 h t (List.mem_range.2 ht)
  rw [hu] at this
  simpa using this
/-- a law reads no variables, and returns true; whatever it was handed -/
theorem law_post_any {f : Func} {s : ChangeSpec} {W W' : World} {args : Array Value} {tb : TypeId} {ds gs : List (DataW H)} {before : List MemPlace}
    (hW : DataW.Whole enc P f.params.toList s.vars false W args.toList ds gs before)
    (hl : laidOutB P = true) (hm : mapsRowed P = true) (hsz : slicesB P = true) (hts : ∀ t ∈ f.params.toList, t < P.types.size)
    (ht : f.resultTypes = #[tb]) (hbool : P.underlying tb = some .bool) (hv : s.vars = [])
    (hr : (s.fn H (ds ++ gs)).results = [.lit (.bool true)]) (hvn : (s.fn H (ds ++ gs)).vars = []) (ha : (s.fn H (ds ++ gs)).args = ds)
    (hb : Below W.heap.size W W') : s.post enc P f false true false false W args (.bool true) W' := by
  have hin : ∀ p ∈ before, p.block < W.heap.size := fun _ hp => hW.lt _ hp
  refine law_post hW ht hbool hv hr hvn (fun sp hsp => ?_) hb
  obtain ⟨p, q, hA, hV, rfl, hfz, hnd⟩ := hW
  rw [hv] at hV
  obtain ⟨rfl, rfl⟩ := trodVars_none hV
  rw [ha]
  simp only [List.append_nil] at hin hsp ⊢
  exact trodAll_stays (kids_rows hl hm) (slices_of hsz) _ _ _ _ hts hA (fun p hp => sameAt_below hb (hin p hp)) hsp
end Go.Proofs.YtfkmolbcgnkfdaaDoor

/- What was handed in reads as a list whose things have a property; append of such a slice to a row of the call's own. -/
namespace Go.Proofs.YtfkmolbcgnkfdaaDoor
open Go.RowKit

/-- a nil slice has no room -/
def NilFine (v : Value) : Prop := ∀ n c, v = .slice none n c → n = 0 ∧ c = 0
theorem nilFine_row {W : World} {B : Nat} {e : TypeId} {z : Nat} {v : Value} {n : Nat} {xs : List Value} (h : W.ownsRow B e z v n xs) : NilFine v := by
  intro m c hv
  rcases h.2 with ⟨rfl, _⟩ | ⟨g, cap, cur, rfl, _⟩
  · cases hv; exact ⟨rfl, rfl⟩
  · cases hv
theorem wpList_append_lst {α : Type} {ec : α → List Value} {P : Program} {w : World} {ops : Array Oper} {rest : List Oper} {o : Oper} {a : Act} {Q : Exit → Act → World → Prop} (hgd : o.guard = none) (s x : Operand) (t : TypeId)
    (ho : o.op = .call { callee := .builtin .append, args := #[s, x], argTypes := #[t, t] })
    (base : Nat) (e : TypeId) (i : TypeInfo) (z : Value) (size bytes : Nat) (ht : P.underlying t = some (.slice e)) (hi : P.info? e = some i) (hz : i.zero = some z)
    (hsize : i.size = size) (hby : i.bytes = bytes) (hzs : z.cells.size = size) (hsz : 0 < size)
    (v : Value) (n : Nat) (xs : List Value) (hs : a.eval s = v) (hown : w.ownsRow base e size v n xs)
    (u : Value) (l : List α) (hx : a.eval x = u) (hu : Lst ec w u l) (hn : NilFine u) (hec : ∀ x, (ec x).length = size) (h1 : ∀ y ∈ l.flatMap ec, y.oneCell' = true)
    (h63 : n + l.length ≤ maxLen) (hbytes : (n + l.length) * bytes ≤ 140737488355328) (hbase : base ≤ w.heap.size)
    (h : ∀ v' w', w'.ownsRow base e size v' (n + l.length) (xs ++ l.flatMap ec) → w.grownBy w' v.ownBlock → wpList P ops Q rest (a.put o.dst v') w') : wpList P ops Q (o :: rest) a w := by
  obtain ⟨b, of, c, rfl, hh⟩ := hu
  cases b with
  | none =>
    obtain ⟨hl, rfl⟩ := hn _ _ rfl
    have hl0 : l = [] := List.eq_nil_of_length_eq_zero hl
    subst hl0
    exact wpList_append_own_none hgd s x t ho base e i size ht hi v n xs hs hown hx (h v w (by simpa using hown) (World.grownBy.refl w _))
  | some ad =>
    refine wpList_append_own w hgd s x t ho base e i z size bytes ht hi hz hsize hby hzs hsz v n xs hs hown ad l.length c (l.flatMap ec) hx (by rw [flat_len hec]) (fun j y hj => ?_) h1 h63 hbytes hbase (fun v' w' h2 h3 _ => h v' w' h2 h3)
    obtain ⟨g, he, _, hc⟩ := hh (fun e => by subst e; simp at hj)
    injection he with he
    subst he
    have := hc j y hj
    have hadd : (⟨g, of, none⟩ : Addr).add j = ⟨g, of + j, none⟩ := by
      unfold Addr.add
      split
      · rename_i h0; subst h0; rfl
      · rfl
    rw [hadd]
    exact this
section
open Go.WideShapes Go.ChangeShapes Go.Deep
variable {H : Type} {enc : TypeId × Value → H} {P : Program} {W : World} {α : Type} {ec : α → List Value} {Q : α → Prop}
theorem open_lstQ {t e : TypeId} {z : Nat} {r : Reach} {b0 : Nat} {v : Value} {d : DataW H} {p : List MemPlace} (ht : P.underlying t = some (.slice e)) (hz : P.cellsOf e = z) (hz0 : 0 < z) (hz1 : ∀ x, (ec x).length = z)
    (he : ∀ (n : Nat) (xs : List Value) (y : DataW H × List MemPlace), DataW.trod enc P W 0 (fun _ => true) true n e xs = some y → xs.length = z → ∃ x : α, xs = ec x ∧ Q x)
    (hv : Value.okWide P W r b0 t v) (h : DataW.Trod enc P W 0 (fun _ => true) true t v d p) : ∃ l : List α, Lst ec W v l ∧ l.length ≤ maxLen ∧ (∀ x ∈ l, Q x) ∧ NilFine v := by
  obtain ⟨l, hl, hlen⟩ := open_lst (ec := fun x : { x : α // Q x } => ec x.1) ht hz hz0 (fun x => hz1 x.1) (fun n xs y h hl => by
    obtain ⟨x, hx, hq⟩ := he n xs y h hl
    exact ⟨⟨x, hq⟩, hx⟩) hv h
  have hfm : (l.map (·.1)).flatMap ec = l.flatMap (fun x => ec x.1) := by rw [List.flatMap_map]
  refine ⟨l.map (·.1), ?_, by simpa using hlen, fun x hx => ?_, ?_⟩
  · obtain ⟨b, o, c, rfl, hh⟩ := hl
    refine ⟨b, o, c, by simp, fun hne => ?_⟩
    obtain ⟨g, e1, e2, e3⟩ := hh (fun e => hne (by rw [e]; rfl))
    exact ⟨g, e1, e2, by rw [hfm]; exact e3⟩
  · obtain ⟨y, _, rfl⟩ := List.mem_map.1 hx
    exact y.2
  · obtain ⟨a, len, cap, rfl⟩ := okWide_slice ht hv
    obtain ⟨n, hn⟩ := h
    rcases open_slice ht hn with ⟨h1, _⟩ | ⟨a', len', cap', m, n', D, Pl, hcs, _⟩
    · intro k c hk
      simp [Value.cells] at h1
      cases hk
      exact h1.2
    · intro k c hk
      simp [Value.cells] at hcs
      cases hk
      cases hcs.1
end
end Go.Proofs.YtfkmolbcgnkfdaaDoor

/- append to a row of the call's own: its block is the old one, or a new one. -/
namespace Go.Proofs.YtfkmolbcgnkfdaaDoor
open Go.RowKit
set_option maxRecDepth 100000

theorem append_block {P : Program} (w : World) (base : Nat) (t ty e : TypeId) (i : TypeInfo) (z : Value) (size bytes : Nat) (ht : P.underlying t = some (.slice e)) (hi : P.info? e = some i) (hz : i.zero = some z)
    (hsize : i.size = size) (hby : i.bytes = bytes) (v : Value) (n : Nat) (xs : List Value) (hown : w.ownsRow base e size v n xs)
    (a : Addr) (m c : Nat) (news : List Value) (hl : news.length = m * size) (hnews : ∀ j u, news[j]? = some u → w.cell? (a.add j) = some u) (h1 : ∀ u ∈ news, u.oneCell' = true)
    (h63 : n + m ≤ maxLen) (hbytes : (n + m) * bytes ≤ 140737488355328) (v' : Value) (w' : World)
    (hr : (Builtin.append_ #[t, t] ty #[v, .slice (some a) m c]).run P w = .ok v' w') : v'.ownBlock = v.ownBlock ∨ v'.ownBlock = some w.heap.size := by
  subst hsize hby
  have hsmall : n + m ≤ 9223372036854775807 := by simp only [maxLen] at h63; omega
  rcases hown.2 with ⟨rfl, rfl⟩ | ⟨g, cap, cur, rfl, hbg, hg, hnc, hcm, hcs, htake⟩
  · by_cases hm : m = 0
    · subst hm
      have hn : news = [] := List.eq_nil_of_length_eq_zero (by simpa using hl)
      subst hn
      simp [Builtin.append_, run_underlying ht, sizeOf, typeInfo, hi, Builtin.lenOf, Builtin.firstCells, loadCells, loadCellsFrom] at hr
      rw [← hr.1]
      exact .inl rfl
    · rw [run_append_nil (P := P) w t ty e i z ht hi hz a m c news hl hnews (by omega) (by omega) (by have hb := hbytes; simp only [Nat.zero_add] at hb; omega)] at hr
      cases hr
      exact .inr rfl
  · by_cases hroom : n + m ≤ cap
    · rw [run_append_room (P := P) w t ty e i ht hi g n cap cur hg a m c news hl hnews h1 hroom (by rw [hl, hcs, ← Nat.add_mul]; exact Nat.mul_le_mul_right _ hroom)] at hr
      cases hr
      exact .inl rfl
    · rw [run_append_grow (P := P) w t ty e i z ht hi hz ⟨g, 0, none⟩ n cap xs hown.1 (hown.cells (g := g) rfl) a m c news hl hnews (by omega) (by omega) (growslice_fits (by omega) hbytes)] at hr
      cases hr
      exact .inr rfl

theorem wpListIn_append_two {F : Fence} {n : Nat} {P : Program} (w : World) {ops : Array Oper} {rest : List Oper} {o : Oper} {a : Act} {Q : Exit → Act → World → Prop}
    (hg : o.guard = none) (s x : Operand) (t : TypeId) (hop : o.op = Op.call { callee := Callee.builtin Builtin.append, args := #[s, x], argTypes := #[t, t] })
    (base : Nat) (e : TypeId) (i : TypeInfo) (z : Value) (size bytes : Nat) (h1 : P.underlying t = some (.slice e)) (h2 : P.info? e = some i) (h3 : i.zero = some z) (h4 : i.size = size) (h5 : i.bytes = bytes) (h6 : z.cells.size = size) (h7 : 0 < size)
    (v : Value) (k : Nat) (xs : List Value) (hs : a.eval s = v) (hown : w.ownsRow base e size v k xs) (ad : Addr) (m c : Nat) (news : List Value) (hx : a.eval x = .slice (some ad) m c) (hn : news.length = m * size)
    (hc : ∀ j u, news[j]? = some u → w.cell? (ad.add j) = some u) (h1c : ∀ u ∈ news, u.oneCell' = true) (b1 : k + m ≤ maxLen) (b2 : (k + m) * bytes ≤ 140737488355328) (b3 : base ≤ w.heap.size)
    (hK : ∀ v' w', w'.ownsRow base e size v' (k + m) (xs ++ news) → w.grownBy w' v.ownBlock → (v'.ownBlock = v.ownBlock ∨ v'.ownBlock = some w.heap.size) → wpListIn F n P ops Q rest (a.put o.dst v') w') :
    wpListIn F n P ops Q (o :: rest) a w := by
  refine wpListIn_plain hg fun K hK' => ?_
  obtain ⟨v', w', hrun, r1, r2, _⟩ := run_append_own (P := P) w base t o.type e i z size bytes h1 h2 h3 h4 h5 h6 h7 v k xs hown ad m c news hn hc h1c b1 b2 b3
  have hbk := append_block w base t o.type e i z size bytes h1 h2 h3 h4 h5 v k xs hown ad m c news hn hc h1c b1 b2 v' w' hrun
  unfold Oper.wpIn
  refine ⟨?_, ?_⟩
  · simp [Oper.about, hop, resolve, Target.leads, Sem.run_pure]
  · rw [Oper.semAt_plain F _ _ (by rw [hop]; intro c hc'; cases hc')]
    simp [execOp, hop, resolve, invoke, builtin, hs, hx, hrun, Result.andThen]
    exact hK' _ _ (hK v' w' r1 r2 hbk)

theorem wpList_append_two {P : Program} (w : World) {ops : Array Oper} {rest : List Oper} {o : Oper} {a : Act} {Q : Exit → Act → World → Prop}
    (hg : o.guard = none) (s x : Operand) (t : TypeId) (hop : o.op = Op.call { callee := Callee.builtin Builtin.append, args := #[s, x], argTypes := #[t, t] })
    (base : Nat) (e : TypeId) (i : TypeInfo) (z : Value) (size bytes : Nat) (h1 : P.underlying t = some (.slice e)) (h2 : P.info? e = some i) (h3 : i.zero = some z) (h4 : i.size = size) (h5 : i.bytes = bytes) (h6 : z.cells.size = size) (h7 : 0 < size)
    (v : Value) (k : Nat) (xs : List Value) (hs : a.eval s = v) (hown : w.ownsRow base e size v k xs) (ad : Addr) (m c : Nat) (news : List Value) (hx : a.eval x = .slice (some ad) m c) (hn : news.length = m * size)
    (hc : ∀ j u, news[j]? = some u → w.cell? (ad.add j) = some u) (h1c : ∀ u ∈ news, u.oneCell' = true) (b1 : k + m ≤ maxLen) (b2 : (k + m) * bytes ≤ 140737488355328) (b3 : base ≤ w.heap.size)
    (hK : ∀ v' w', w'.ownsRow base e size v' (k + m) (xs ++ news) → w.grownBy w' v.ownBlock → (v'.ownBlock = v.ownBlock ∨ v'.ownBlock = some w.heap.size) → wpList P ops Q rest (a.put o.dst v') w') :
    wpList P ops Q (o :: rest) a w := by
  obtain ⟨v', w', hrun, r1, r2, _⟩ := run_append_own (P := P) w base t o.type e i z size bytes h1 h2 h3 h4 h5 h6 h7 v k xs hown ad m c news hn hc h1c b1 b2 b3
  have hbk := append_block w base t o.type e i z size bytes h1 h2 h3 h4 h5 v k xs hown ad m c news hn hc h1c b1 b2 v' w' hrun
  refine wpList_plain hg fun K hK' => ?_
  unfold Oper.wp execOp
  simp [hop, resolve, invoke, builtin, hs, hx, hrun, Result.andThen]
  exact hK' _ _ (hK v' w' r1 r2 hbk)
end Go.Proofs.YtfkmolbcgnkfdaaDoor

/- (The iterator is told, too, how many rounds there are at most: it need not end by itself.) A range over a function whose iterator keeps state in cells that it captured: between two rounds it may turn blocks of a set R (its own captured variables), and lay new ones. The library's laws ask that an iterator turn no cells; this one asks of the caller's invariant that it abide a turn of a block of R. -/
namespace Go.Proofs.YtfkmolbcgnkfdaaDoor
open Go.RowKit

/-- what is said of the list and the world still stands when the iterator has taken a step of its own -/
def Stands {α : Type} (R : Nat → Prop) (J : List α → World → Prop) : Prop :=
  ∀ xs A B row, J xs A → A.grownBy B row → (∀ r, row = some r → R r) → J xs B

/-- the iterator's contract: whatever the rounds are, if they take what has come, and keep what it needs -/
def Iter {α : Type} (F : Fence) (n : Nat) (P : Program) (gf : Nat) (lb : Array Value) (encs : α → Array Value) (R : Nat → Prop) (Kp : World → World → Prop) (S Sp Pf : List α → Prop) (N : Nat) (w : World) : Prop :=
  ∀ (l : Nat) (J Jx : List α → World → Prop) (W : World), Below w.heap.size w W → Stands R J → (∀ pre W1, J pre W1 → pre.length < N) →
    (∀ pre x W1, J pre W1 → pre.length < N → Pf (pre ++ [x]) → YieldAt F (n - 1) P l (encs x) W1 fun e W' =>
      (e = .returned (.bool true) ∧ J (pre ++ [x]) W' ∧ Kp W1 W') ∨ (e = .returned (.bool false) ∧ Jx (pre ++ [x]) W')) →
    J [] W →
    CallsIn F n P gf (#[.func (.yield l) #[] #[]] ++ lb) W fun e W' => (∃ v, e = .returned v) ∧ ((∃ xs, S xs ∧ J xs W') ∨ (∃ pre, Sp pre ∧ Jx pre W'))

variable {F : Fence} {n : Nat} {P : Program}

theorem grown_keeps {A B : World} {row : Option Nat} (hg : A.grownBy B row) {k : Nat} {o : Obj} (hk : A.heap[k]? = some o) (hne : row ≠ some k) : B.heap[k]? = some o :=
  (hg.block k (Array.getElem?_eq_some_iff.1 hk).1 (fun e => hne e.symm)).trans hk

theorem range_over {α : Type} {g : Operand} {ps : Array Tmp} {assign body : Code} {Q : Exit → Act → World → Prop} {a : Act} {w : World}
    (hro : F.round = none) (h1 : 1 ≤ n) {gf : Nat} {lb : Array Value} (hg : a.eval g = .func (.func gf) #[] lb) (hFg : F.fn gf) (eg : ∀ args w, (callFunc gf args).run P w = .ok (.enter gf args) w)
    {encs : α → Array Value} {R : Nat → Prop} {Kp : World → World → Prop} {S Sp Pf : List α → Prop} {N : Nat} (hit : Iter F (n - 1) P gf lb encs R Kp S Sp Pf N w)
    (hR : ∀ r, R r → r ≠ w.heap.size ∧ r ≠ w.heap.size + 1)
    (hKt : ∀ {A B C : World}, Kp A B → Kp B C → Kp A C) (hKb : ∀ (W : World) (l : Nat) (o : Obj), w.heap.size ≤ l → Kp W (W.putObj l o)) (hps : ∀ x, (encs x).size = ps.size)
    (I : List α → World → Prop) (Ix : Code → List α → World → Prop) (hI : OwnFrom w.heap.size I) (hIN : ∀ pre W1, I pre W1 → pre.length < N) (hIR : Stands R I) (hIx : ∀ c, OwnFrom w.heap.size (Ix c)) (h0 : I [] w) (a₁ : α → Act)
    (hassign : ∀ (l : Nat) (x : α) (W : World) (K : Act → World → Prop), K (a₁ x) W →
      assign.wpIn (F.inRound l) (n - 1 - 1) P (Exit.then K (fun _ _ _ => False)) { tmps := (ps.zip (encs x)).foldl (fun t (p, v) => t.setIfInBounds p v) a.tmps, defers := [] } W)
    (hbody : ∀ (l : Nat) (pre : List α) (x : α) (W : World), w.heap.size ≤ W.heap.size → I pre W → pre.length < N → Pf (pre ++ [x]) → body.wpIn (F.inRound l) (n - 1 - 1) P (ownPostG w.heap.size Kp I Ix (pre ++ [x]) W) (a₁ x) W)
    (hdone : ∀ (D : Nat) (xs : List α) (W : World), w.heap.size ≤ D → S xs → I xs W → W.heap[D]? = some (.deferred (some [])) → Q .normal { a with defers := { target := .collected D, args := #[] } :: a.defers } W)
    (hstop : ∀ (D : Nat) (c : Code) (pre : List α) (W : World), w.heap.size ≤ D → Sp pre → Ix c pre W → W.heap[D]? = some (.deferred (some [])) → c.wpIn F n P Q { a with defers := { target := .collected D, args := #[] } :: a.defers } W) :
    (Code.rangeFunc g ps assign body).wpIn F n P Q a w := by
  refine wpIn_rangeFunc fun fn hfn => ?_
  rw [hro]
  -- D: the block of the rounds' deferred calls; L: the loop's record
  generalize hD : w.heap.size = D at *
  obtain ⟨rec, hrec⟩ : ∃ rec : LoopState → Option Code → Loop, ∀ st pe, rec st pe = { state := st, pending := pe, fn, tmps := a.tmps, params := ps, assign, body, defers := D } := ⟨fun st pe => { state := st, pending := pe, fn, tmps := a.tmps, params := ps, assign, body, defers := D }, fun _ _ => rfl⟩
  have hW1 := run_enterLoop_outer (P := P) (w := w) fn a.tmps ps assign body
  rw [hD, ← hrec] at hW1
  have hKd : (w.alloc (.deferred (some []))).heap[D]? = some (.deferred (some [])) := by rw [← hD]; exact World.alloc_heap_new w _
  have hsz : (w.alloc (.deferred (some []))).heap.size = D + 1 := by rw [World.size_alloc, hD]
  have hL1 : ((w.alloc (.deferred (some []))).alloc (.loop (rec .ready none))).heap[D + 1]? = some (.loop (rec .ready none)) := by
    rw [← hsz]; exact World.alloc_heap_new _ _
  have hK1 : ((w.alloc (.deferred (some []))).alloc (.loop (rec .ready none))).heap[D]? = some (.deferred (some [])) :=
    (Below.heap_alloc _ _ _ (by rw [hsz]; omega)).trans hKd
  have hI1 : I [] ((w.alloc (.deferred (some []))).alloc (.loop (rec .ready none))) := hI.alloc _ (hI.alloc _ h0)
  have hb1 : Below D w ((w.alloc (.deferred (some []))).alloc (.loop (rec .ready none))) :=
    ((Below.refl _ w).alloc (by omega) _).alloc (by omega) _
  have hB0 := hsz
  have hsz1 : ((w.alloc (.deferred (some []))).alloc (.loop (rec .ready none))).heap.size = D + 2 := by rw [World.size_alloc, hsz]
  generalize hWe : (w.alloc (.deferred (some []))).alloc (.loop (rec .ready none)) = W1 at *
  refine ⟨D + 1, [{ target := .collected D, args := #[] }], W1, { target := .fn (.func gf) lb, args := #[.func (.yield (D + 1)) #[] #[]] }, W1, gf,
    #[.func (.yield (D + 1)) #[] #[]] ++ lb, W1, hW1, ?_, ?_, ?_, fun _ => h1, ?_⟩
  · simp only [resolve, hg]; simp [go_sem]
  · intro f' hf'; simp [Target.leads] at hf'; subst hf'; exact hFg
  · simp [invoke, go_sem, eg]
  -- the two blocks of book-keeping, beside what the caller says
  have two : ∀ {st : LoopState} {pe : Option Code} {A B : World} {row : Option Nat}, A.grownBy B row → (∀ r, row = some r → R r) → A.heap[D + 1]? = some (.loop (rec st pe)) → A.heap[D]? = some (.deferred (some [])) →
      B.heap[D + 1]? = some (.loop (rec st pe)) ∧ B.heap[D]? = some (.deferred (some [])) := fun hg' hr hl hk =>
    ⟨grown_keeps hg' hl (fun e => (hR _ (hr _ e)).2 rfl), grown_keeps hg' hk (fun e => (hR _ (hr _ e)).1 rfl)⟩
  have hcall := hit (D + 1)
    (fun pre W => I pre W ∧ W.heap[D + 1]? = some (.loop (rec .ready none)) ∧ W.heap[D]? = some (.deferred (some [])))
    (fun pre W => ∃ c, Ix c pre W ∧ W.heap[D + 1]? = some (.loop (rec .done (some c))) ∧ W.heap[D]? = some (.deferred (some [])))
    W1 (by rw [hD]; exact hb1)
    (fun xs A B row hs hg' hr => ⟨hIR xs A B row hs.1 hg' hr, two hg' hr hs.2.1 hs.2.2⟩)
    (fun pre W1 h => hIN pre W1 h.1) ?_ ⟨hI1, hL1, hK1⟩
  · refine hcall.mono ?_
    rintro e W2 ⟨⟨v, rfl⟩, (⟨xs, hS, hi, hl, hk⟩ | ⟨pre, hSp, c, hi, hl, hk⟩)⟩
    · have he := run_endLoop (P := P) hl (by rw [hrec]; simp)
      rw [show (rec .ready none).pending = none from by rw [hrec]] at he
      exact ⟨none, _, he, hdone D xs _ (Nat.le_refl _) hS (hI.putObj _ hi (by omega) hl rfl) ((World.putObj_heap_other (by omega)).trans hk)⟩
    · have he := run_endLoop (P := P) hl (by rw [hrec]; simp)
      rw [show (rec .done (some c)).pending = some c from by rw [hrec]] at he
      exact ⟨some c, _, he, hstop D c pre _ (Nat.le_refl _) hSp ((hIx c).putObj _ hi (by omega) hl rfl) ((World.putObj_heap_other (by omega)).trans hk)⟩
  -- one round
  rintro pre x W ⟨hi, hl, hk⟩ hlen hpf
  have hlt : D + 1 < W.heap.size := (Array.getElem?_eq_some_iff.1 hl).1
  have hy := run_yield (P := P) (args := encs x) hl (by rw [hrec]; exact hps x)
  rw [hrec] at hy
  have hbr := run_beginRound (P := P) hl (by rw [hrec])
  refine ⟨fn, _, assign, body, hy, roundIn_of_wpIn hfn (hassign _ x W _ ⟨_, hbr, ?_⟩)⟩
  have hbusy : ({ rec .ready none with state := .busy } : Loop) = rec .busy none := by rw [hrec, hrec]
  rw [hbusy]
  have hl2 : (W.putObj (D + 1) (.loop (rec .busy none))).heap[D + 1]? = some (.loop (rec .busy none)) := World.putObj_heap_same hlt
  have hk2 : (W.putObj (D + 1) (.loop (rec .busy none))).heap[D]? = some (.deferred (some [])) := (World.putObj_heap_other (by omega)).trans hk
  have hw2 : Kp W (W.putObj (D + 1) (.loop (rec .busy none))) := hKb _ _ _ (by omega)
  refine wpIn_mono (hbody _ pre x _ (by simp; omega) (hI.putObj _ hi (by omega) hl rfl) hlen hpf) ?_
  -- how the round's end leaves the record
  have fin : ∀ (jump : Option Code) (W3 : World), KeepsFrom D (W.putObj (D + 1) (.loop (rec .busy none))) W3 →
      ∃ W4, (Instr.endRound (D + 1) jump).run P W3 = .ok (.bool jump.isNone) W4 ∧ W4 = W3.putObj (D + 1) (.loop (rec (if jump.isNone then .ready else .done) jump)) ∧ W3.heap[D + 1]? = some (.loop (rec .busy none)) ∧
        W4.heap[D + 1]? = some (.loop (rec (if jump.isNone then .ready else .done) jump)) ∧ W4.heap[D]? = some (.deferred (some [])) := fun jump W3 hk3 => by
    have hl3 := hk3.same _ _ (by omega) hl2 rfl
    have he := run_endRound (P := P) jump hl3
    have hend : ({ rec .busy none with state := if jump.isNone then .ready else .done, pending := jump } : Loop) = rec (if jump.isNone then .ready else .done) jump := by rw [hrec, hrec]
    rw [hend] at he
    exact ⟨_, he, rfl, hl3, World.putObj_heap_same (Array.getElem?_eq_some_iff.1 hl3).1, (World.putObj_heap_other (by omega)).trans (hk3.same _ _ (Nat.le_refl _) hk2 rfl)⟩
  have left : ∀ (c : Code) (W3 : World), KeepsFrom D (W.putObj (D + 1) (.loop (rec .busy none))) W3 → Ix c (pre ++ [x]) W3 →
      ∃ v W4, (Instr.endRound (D + 1) (some c)).run P W3 = .ok v W4 ∧ ((Ending.returned v = .returned (.bool true) ∧ (I (pre ++ [x]) W4 ∧ W4.heap[D + 1]? = some (.loop (rec .ready none)) ∧ W4.heap[D]? = some (.deferred (some []))) ∧ Kp W W4) ∨
        (Ending.returned v = .returned (.bool false) ∧ ∃ c, Ix c (pre ++ [x]) W4 ∧ W4.heap[D + 1]? = some (.loop (rec .done (some c))) ∧ W4.heap[D]? = some (.deferred (some [])))) := fun c W3 hk3 hx3 => by
    obtain ⟨W4, hr, rfl, hl3, hl4, hk4⟩ := fin (some c) W3 hk3
    exact ⟨_, _, hr, .inr ⟨rfl, c, (hIx c).putObj _ hx3 (by omega) hl3 rfl, hl4, hk4⟩⟩
  rintro e a3 W3 hp
  cases e with
  | normal =>
    obtain ⟨hk3, hkp3, hi3⟩ := hp
    obtain ⟨W4, hr, rfl, hl3, hl4, hk4⟩ := fin none W3 hk3
    exact ⟨_, _, hr, .inl ⟨rfl, ⟨hI.putObj _ hi3 (by omega) hl3 rfl, hl4, hk4⟩, hKt (hKt hw2 hkp3) (hKb _ _ _ (by omega))⟩⟩
  | ret => exact left _ W3 hp.1 hp.2
  | exit id => exact left _ W3 hp.1 hp.2
  | goto t => exact left _ W3 hp.1 hp.2
  | panic ch => exact hp.elim
  | outgrown => exact hp.elim
end Go.Proofs.YtfkmolbcgnkfdaaDoor

/- What was handed in reads as a list whose things have a property, inside of other things too. -/
namespace Go.Proofs.YtfkmolbcgnkfdaaDoor
open Go.RowKit

/-- a slice is no longer than its room -/
def CapFine (v : Value) : Prop := ∀ b n c, v = .slice b n c → n ≤ c
theorem capFine_row {W : World} {B : Nat} {e : TypeId} {z : Nat} {v : Value} {n : Nat} {xs : List Value} (h : W.ownsRow B e z v n xs) : CapFine v := by
  intro b m c hv
  rcases h.2 with ⟨rfl, hn⟩ | ⟨g, cap, cur, rfl, _, _, hh, _⟩
  · cases hv; exact Nat.le_refl _
  · cases hv; exact hh
section
open Go.WideShapes Go.ChangeShapes Go.Deep
variable {H : Type} {enc : TypeId × Value → H} {P : Program} {W : World} {α : Type} {ec : α → List Value} {Q : α → Prop}
theorem lst_of_trodQ {t e : TypeId} {z : Nat} {v : Value} {d : DataW H} {p : List MemPlace} (ht : P.underlying t = some (.slice e)) (hz : P.cellsOf e = z) (hz0 : 0 < z) (hz1 : ∀ x, (ec x).length = z)
    (he : ∀ (n : Nat) (xs : List Value) (y : DataW H × List MemPlace), DataW.trod enc P W 0 (fun _ => true) true n e xs = some y → xs.length = z → ∃ x : α, xs = ec x ∧ Q x)
    {n : Nat} (h : DataW.trod enc P W 0 (fun _ => true) true n t [v] = some (d, p)) : ∃ l : List α, Lst ec W v l ∧ l.length ≤ maxLen ∧ (∀ x ∈ l, Q x) ∧ NilFine v ∧ CapFine v := by
  obtain ⟨l, hl, hlen⟩ := lst_of_trod (ec := fun x : { x : α // Q x } => ec x.1) ht hz hz0 (fun x => hz1 x.1) (fun n xs y h hl => by
    obtain ⟨x, hx, hq⟩ := he n xs y h hl
    exact ⟨⟨x, hq⟩, hx⟩) h
  have hfm : (l.map (·.1)).flatMap ec = l.flatMap (fun x => ec x.1) := by rw [List.flatMap_map]
  refine ⟨l.map (·.1), ?_, by simpa using hlen, fun x hx => ?_, ?_, ?_⟩
  · obtain ⟨b, o, c, rfl, hh⟩ := hl
    refine ⟨b, o, c, by simp, fun hne => ?_⟩
    obtain ⟨g, e1, e2, e3⟩ := hh (fun e => hne (by rw [e]; rfl))
    exact ⟨g, e1, e2, by rw [hfm]; exact e3⟩
  · obtain ⟨y, _, rfl⟩ := List.mem_map.1 hx
    exact y.2
  · rcases open_slice ht h with ⟨h1, _⟩ | ⟨a', len', cap', m, n', D, Pl, hcs, _⟩
    · intro k c hk
      simp at h1
      rw [h1] at hk
      cases hk
      exact ⟨rfl, rfl⟩
    · intro k c hk
      simp at hcs
      rw [hcs] at hk
      cases hk
  · rcases open_slice ht h with ⟨h1, _⟩ | ⟨a', len', cap', m, n', D, Pl, hcs, _, hlc, _⟩
    · intro b k c hk
      simp at h1
      rw [h1] at hk
      cases hk
      exact Nat.le_refl _
    · intro b k c hk
      simp at hcs
      rw [hcs] at hk
      cases hk
      exact hlc
theorem open_lstC {t e : TypeId} {z : Nat} {r : Reach} {b0 : Nat} {v : Value} {d : DataW H} {p : List MemPlace} (ht : P.underlying t = some (.slice e)) (hz : P.cellsOf e = z) (hz0 : 0 < z) (hz1 : ∀ x, (ec x).length = z)
    (he : ∀ (n : Nat) (xs : List Value) (y : DataW H × List MemPlace), DataW.trod enc P W 0 (fun _ => true) true n e xs = some y → xs.length = z → ∃ x : α, xs = ec x ∧ Q x)
    (hv : Value.okWide P W r b0 t v) (h : DataW.Trod enc P W 0 (fun _ => true) true t v d p) : ∃ l : List α, Lst ec W v l ∧ l.length ≤ maxLen ∧ (∀ x ∈ l, Q x) ∧ NilFine v ∧ CapFine v := by
  obtain ⟨a, len, cap, rfl⟩ := okWide_slice ht hv
  obtain ⟨n, hn⟩ := h
  exact lst_of_trodQ ht hz hz0 hz1 he hn
/-- the parts of a struct that was handed in: each one's cells -/
theorem struct_parts {t : TypeId} (hu : P.underlying t = some (.struct (P.fieldsOf t))) {n : Nat} {xs : List Value} {y : DataW H × List MemPlace} (h : DataW.trod enc P W 0 (fun _ => true) true n t xs = some y) :
    ∃ m : Nat, ∀ (j : Nat) (f : Field), (P.fieldsOf t)[j]? = some f → ∃ y', DataW.trod enc P W 0 (fun _ => true) true m f.type ((xs.drop f.offset).take (P.cellsOf f.type)) = some y' := by
  obtain ⟨ys, m, _, _, _, hys, hf⟩ := DataW.trod_struct hu h
  refine ⟨m, fun j f hj => ?_⟩
  have hj2 : j < ys.length := by rw [hys]; exact (Array.getElem?_eq_some_iff.1 hj).1
  exact ⟨_, (hf j f hj).trans (List.getElem?_eq_getElem hj2)⟩
end
end Go.Proofs.YtfkmolbcgnkfdaaDoor

/- Rows of the call's own, lists of texts, worlds one behind the other. -/
namespace Go.Proofs.YtfkmolbcgnkfdaaDoor
open Go.RowKit

theorem chain {a x y : World} (hb : Below x.heap.size x y) (h : Below a.heap.size a x) : Below a.heap.size a y := h.trans (hb.mono h.size)
theorem chain2 {a x y : World} (h : Below a.heap.size a x) (hb : Below x.heap.size x y) : Below a.heap.size a y := h.trans (hb.mono h.size)
theorem below_one (w : World) (o : Obj) : Below w.heap.size w (w.alloc o) := (Below.refl _ _).alloc (Nat.le_refl _) o
theorem below_eq {w w' : World} (h : w = w') : Below w.heap.size w w' := h ▸ Below.refl _ _
theorem row_set {W : World} {B : Nat} {e : TypeId} {z : Nat} {v : Value} {n : Nat} {xs : List Value} (h : W.ownsRow B e z v n xs) {p : Addr} (hp : p.block < B) (x : Value) : (W.setCell p x).ownsRow B e z v n xs := by
  refine ⟨h.1, ?_⟩
  rcases h.2 with h2 | ⟨g, cap, cur, h1, h2, h3, h4⟩
  · exact .inl h2
  · exact .inr ⟨g, cap, cur, h1, h2, (RowKit.Below.heap_setCell _ _ _ _ (by omega)).trans h3, h4⟩
theorem row_other {W : World} {B : Nat} {e : TypeId} {z : Nat} {v : Value} {n : Nat} {xs : List Value} (h : W.ownsRow B e z v n xs) {p : Addr} (hp : ∀ g, v.ownBlock = some g → g ≠ p.block) (x : Value) : (W.setCell p x).ownsRow B e z v n xs := by
  refine ⟨h.1, ?_⟩
  rcases h.2 with h2 | ⟨g, cap, cur, h1, h2, h3, h4⟩
  · exact .inl h2
  · exact .inr ⟨g, cap, cur, h1, h2, (RowKit.Below.heap_setCell _ _ _ _ (hp g (by rw [h1]; rfl))).trans h3, h4⟩
theorem row_below {W W' : World} {B : Nat} {e : TypeId} {z : Nat} {v : Value} {n : Nat} {xs : List Value} (h : W.ownsRow B e z v n xs) (hb : Below W.heap.size W W') : W'.ownsRow B e z v n xs := by
  refine ⟨h.1, ?_⟩
  rcases h.2 with h2 | ⟨g, cap, cur, h1, h2, h3, h4⟩
  · exact .inl h2
  · exact .inr ⟨g, cap, cur, h1, h2, (hb.block g (Array.getElem?_eq_some_iff.1 h3).1).trans h3, h4⟩
theorem row_mono {W : World} {B B' : Nat} {e : TypeId} {z : Nat} {v : Value} {n : Nat} {xs : List Value} (h : W.ownsRow B e z v n xs) (hb : B' ≤ B) : W.ownsRow B' e z v n xs := by
  refine ⟨h.1, ?_⟩
  rcases h.2 with h2 | ⟨g, cap, cur, h1, h2, h3, h4⟩
  · exact .inl h2
  · exact .inr ⟨g, cap, cur, h1, Nat.le_trans hb h2, h3, h4⟩
theorem row_slice {W : World} {B : Nat} {e : TypeId} {z : Nat} {v : Value} {n : Nat} {xs : List Value} (h : W.ownsRow B e z v n xs) : ∃ b c, v = .slice b n c := by
  rcases h.2 with ⟨rfl, rfl⟩ | ⟨g, cap, cur, rfl, _⟩
  · exact ⟨_, _, rfl⟩
  · exact ⟨_, _, rfl⟩
theorem below_grown {W W' : World} (h : Below W.heap.size W W') : W.grownBy W' none := ⟨h.os, h.tape, h.output, h.size, fun k hk _ => h.block k hk⟩

/-! texts -/
def stc (s : ByteArray) : List Value := [.string s]
theorem stc_len (s : ByteArray) : (stc s).length = 1 := rfl
theorem stc_one (l : List ByteArray) : ∀ y ∈ l.flatMap stc, y.oneCell' = true := by
  intro y hy
  obtain ⟨x, _, hx⟩ := List.mem_flatMap.1 hy
  simp [stc] at hx
  subst hx
  rfl
theorem bytes_inj (a b : ByteArray) (h : a.data.toList = b.data.toList) : a = b := by
  apply ByteArray.ext
  exact Array.ext' h
theorem tl_eq (x y : ByteArray) : (x.toList == y.toList) = (x.data.toList == y.data.toList) := by
  rw [ByteArray.toList_eq, ByteArray.toList_eq]
theorem tl_self (x : ByteArray) : (x.toList == x.toList) = true := by simp
theorem tl_ne (x y : ByteArray) (h : x ≠ y) : (x.toList == y.toList) = false := by
  rw [tl_eq, beq_eq_false_iff_ne]
  exact fun e => h (bytes_inj _ _ e)
def usedB (used : List ByteArray) (s : ByteArray) : Bool := used.any fun y => y.data.toList == s.data.toList
theorem usedB_iff (used : List ByteArray) (s : ByteArray) : usedB used s = true ↔ s ∈ used := by
  unfold usedB
  simp only [List.any_eq_true, beq_iff_eq]
  constructor
  · rintro ⟨y, hy, he⟩
    rw [← bytes_inj _ _ he]
    exact hy
  · intro h
    exact ⟨_, h, rfl⟩
theorem usedB_no (used : List ByteArray) (s : ByteArray) (h : s ∉ used) : usedB used s = false := by
  cases hu : usedB used s
  · rfl
  · exact absurd ((usedB_iff used s).1 hu) h
def stEq (x y : ByteArray) : Bool := x.toList == y.toList
theorem stEq_self (x : ByteArray) : stEq x x = true := by simp [stEq]
theorem stEq_iff (x y : ByteArray) : stEq x y = true ↔ x = y := by
  constructor
  · intro h
    by_cases e : x = y
    · exact e
    · have := tl_ne x y e
      unfold stEq at h
      rw [this] at h
      cases h
  · rintro rfl
    exact stEq_self x
/-- is a byte seen; is a text a name -/
def seenB (c : UInt8) : Bool := decide (33 ≤ c.toNat) && decide (c.toNat ≤ 126)
def nameB (s : ByteArray) : Bool := decide (1 ≤ s.size) && (decide (s.size ≤ 40) && s.data.toList.all seenB)
theorem three_blk {W : World} {B : Nat} {x y z : ByteArray} (h : Blk W B #[.string x, .string y, .string z] 9) : Lst stc W (.slice (some ⟨B, 0, none⟩) 3 3) [x, y, z] := Lst.blk (t := 9) h rfl
theorem two_blk {W : World} {B : Nat} {x y : ByteArray} (h : Blk W B #[.string x, .string y] 9) : Lst stc W (.slice (some ⟨B, 0, none⟩) 2 2) [x, y] := Lst.blk (t := 9) h rfl
theorem one_blk {W : World} {B : Nat} {x : ByteArray} (h : Blk W B #[.string x] 9) : Lst stc W (.slice (some ⟨B, 0, none⟩) 1 1) [x] := Lst.blk (t := 9) h rfl
theorem nilfine_some (a : Addr) (n c : Nat) : NilFine (.slice (some a) n c) := fun _ _ h => by cases h
theorem nilfine_nil : NilFine (.slice none 0 0) := fun _ _ h => by cases h; exact ⟨rfl, rfl⟩
theorem capfine_nil : CapFine (.slice none 0 0) := fun _ _ _ h => by cases h; exact Nat.le_refl _
theorem capfine_eq (a : Addr) (n : Nat) : CapFine (.slice (some a) n n) := fun _ _ _ h => by cases h; exact Nat.le_refl _
/-- a list of texts, in reach -/
structure Inn (W : World) (v : Value) (l : List ByteArray) : Prop where
  lst : Lst stc W v l
  len : l.length ≤ maxLen
  size : ∀ x ∈ l, x.size ≤ maxLen
  nil : NilFine v
  cap : CapFine v
theorem Inn.below {W W' : World} {v : Value} {l : List ByteArray} (h : Inn W v l) (hb : Below W.heap.size W W') : Inn W' v l := ⟨h.lst.below hb, h.len, h.size, h.nil, h.cap⟩
theorem Inn.none {W : World} : Inn W (.slice none 0 0) [] := ⟨Lst.nil, Nat.zero_le _, by simp, nilfine_nil, capfine_nil⟩
end Go.Proofs.YtfkmolbcgnkfdaaDoor

/- A region that draws its order, operation by operation: what is not wanted is passed over. -/
namespace Go.Proofs.YtfkmolbcgnkfdaaDoor
open Go.RowKit

section
variable {P : Program} {l : List Oper} {Q : Exit → Act → World → Prop} {md : Region.Mode} {S : World → Prop}
theorem take_yes {i : Nat} {oi : Oper} {v : Value} {fuel : Nat} {listed : Array Bool} {a : Act} {w : World} (hi : l[i]? = some oi)
    (hs : Region.noSelect l.toArray = true) (hf : Region.free md l.toArray listed i = true) (hr : (Region.ready md l.toArray listed).contains i = true)
    (hQ : ∀ c a w, Q (.panic c) (a.put oi.dst v) w → Q (.panic c) a w) (hw : Region.wanted oi (yielded l.toArray a.tmps) = true)
    (hy : ∀ w, S w → (execOp a.eval oi).run P w = .ok (.value v) w) (hS : S w)
    (h : wpAnyH P md l.toArray Q S fuel (listed.setIfInBounds i true) (a.put oi.dst v) w) : wpAnyH P md l.toArray Q S (fuel + 1) listed a w :=
  wpAnyH_take (by rw [List.getElem?_toArray]; exact hi) hs hf hr hQ (.inl ⟨hw, hy⟩) hS h
theorem take_no {i : Nat} {oi : Oper} {fuel : Nat} {listed : Array Bool} {a : Act} {w : World} (hi : l[i]? = some oi)
    (hs : Region.noSelect l.toArray = true) (hf : Region.free md l.toArray listed i = true) (hr : (Region.ready md l.toArray listed).contains i = true)
    (hQ : ∀ c a w, Q (.panic c) (a.put oi.dst undef) w → Q (.panic c) a w) (hw : Region.wanted oi (yielded l.toArray a.tmps) = false) (hS : S w)
    (h : wpAnyH P md l.toArray Q S fuel (listed.setIfInBounds i true) (a.put oi.dst undef) w) : wpAnyH P md l.toArray Q S (fuel + 1) listed a w :=
  wpAnyH_take (by rw [List.getElem?_toArray]; exact hi) hs hf hr hQ (.inr ⟨hw, rfl⟩) hS h
/-- the one operation that may come up now -/
theorem take_this {i : Nat} {oi : Oper} {fuel : Nat} {listed : Array Bool} {a : Act} {w : World} (hr : Region.ready md l.toArray listed = [i]) (hi : l[i]? = some oi)
    (hw : Region.wanted oi (yielded l.toArray a.tmps) = true)
    (h : ∀ K : Act → World → Prop, Shut (∀ a w, S w → (S w → wpAnyH P md l.toArray Q S fuel (listed.setIfInBounds i true) a w) → K a w) → Oper.wp P oi a w K Q) :
    wpAnyH P md l.toArray Q S (fuel + 1) listed a w :=
  wpAnyH_ready hr (by simp) (AllReadyH.cons (by rw [List.getElem?_toArray]; exact hi) (fun K hK => by rw [if_pos hw]; exact h K hK) AllReadyH.nil)
/-- two operations may come up now -/
theorem take_two {i j : Nat} {oi oj : Oper} {fuel : Nat} {listed : Array Bool} {a : Act} {w : World} (hr : Region.ready md l.toArray listed = [i, j]) (hi : l[i]? = some oi) (hj : l[j]? = some oj)
    (hwi : Region.wanted oi (yielded l.toArray a.tmps) = true) (hwj : Region.wanted oj (yielded l.toArray a.tmps) = true)
    (h : ∀ K : Act → World → Prop, Shut (∀ a w, S w → (S w → wpAnyH P md l.toArray Q S fuel (listed.setIfInBounds i true) a w) → K a w) → Oper.wp P oi a w K Q)
    (h' : ∀ K : Act → World → Prop, Shut (∀ a w, S w → (S w → wpAnyH P md l.toArray Q S fuel (listed.setIfInBounds j true) a w) → K a w) → Oper.wp P oj a w K Q) :
    wpAnyH P md l.toArray Q S (fuel + 1) listed a w :=
  wpAnyH_ready hr (by simp) (AllReadyH.cons (by rw [List.getElem?_toArray]; exact hi) (fun K hK => by rw [if_pos hwi]; exact h K hK)
    (AllReadyH.cons (by rw [List.getElem?_toArray]; exact hj) (fun K hK => by rw [if_pos hwj]; exact h' K hK) AllReadyH.nil))
end
end Go.Proofs.YtfkmolbcgnkfdaaDoor
