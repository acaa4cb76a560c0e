/- A slice that reads as a list, whatever its elements; what was handed in reads as one. -/
import Derived.Test.YtadodccciejghaaBlk
import Derived.Deep.Slices
import Derived.Deep.Fields
import Derived.ChangeSame
namespace Go.Proofs.Ytadodccciejghaa
open Go.RowKit

/-- a slice whose cells are those of this list -/
def Lst {α : Type} (ec : α → List Value) (W : World) (v : Value) (l : List α) : Prop :=
  ∃ b o c, v = .slice b l.length c ∧ (l ≠ [] → ∃ g, b = some ⟨g, o, none⟩ ∧ g < W.heap.size ∧ ∀ j u, (l.flatMap ec)[j]? = some u → W.cell? ⟨g, o + j, none⟩ = some u)
section
variable {α : Type} {ec : α → List Value}
theorem Lst.nil {W : World} : Lst ec W (.slice none 0 0) [] := ⟨none, 0, 0, rfl, fun h => absurd rfl h⟩
theorem Lst.slice {W : World} {v : Value} {l : List α} (h : Lst ec W v l) : ∃ b c, v = .slice b l.length c := by
  obtain ⟨b, o, c, rfl, _⟩ := h
  exact ⟨b, c, rfl⟩
theorem Lst.of_row {W : World} {B : Nat} {e : TypeId} {z : Nat} {v : Value} {l : List α} (h : W.ownsRow B e z v l.length (l.flatMap ec)) : Lst ec W v l := by
  have hl := h
  rcases h.2 with ⟨rfl, hn⟩ | ⟨g, cap, cur, rfl, _⟩
  · exact ⟨none, 0, 0, by rw [hn], fun hne => absurd (List.length_eq_zero_iff.1 hn) hne⟩
  · refine ⟨_, 0, cap, rfl, fun _ => ⟨g, rfl, (hl.lt g rfl).2, fun j u hj => ?_⟩⟩
    have := hl.cells (g := g) rfl j u hj
    rwa [Addr.add_lit] at this
theorem Lst.below {W W' : World} {v : Value} {l : List α} (h : Lst ec W v l) (hb : Below W.heap.size W W') : Lst ec W' v l := by
  obtain ⟨b, o, c, rfl, hh⟩ := h
  refine ⟨b, o, c, rfl, fun hne => ?_⟩
  obtain ⟨g, e, hg, hc⟩ := hh hne
  exact ⟨g, e, Nat.lt_of_lt_of_le hg hb.size, fun j u hj => (hb.cell (p := ⟨g, o + j, none⟩) hg).trans (hc j u hj)⟩
theorem Lst.blk {W : World} {B n cap : Nat} {t : TypeId} {l : List α} (h : Blk W B (l.flatMap ec).toArray t) (hn : n = l.length) : Lst ec W (.slice (some ⟨B, 0, none⟩) n cap) l := by
  subst hn
  refine ⟨_, 0, cap, rfl, fun _ => ⟨B, rfl, h.lt, fun j u hj => ?_⟩⟩
  rw [Nat.zero_add, h.cell j]
  simpa using hj
theorem flat_len {z : Nat} (hz : ∀ x, (ec x).length = z) : ∀ l : List α, (l.flatMap ec).length = l.length * z
  | [] => by simp
  | x :: l => by rw [List.flatMap_cons, List.length_append, hz, flat_len hz l, List.length_cons, Nat.add_mul]; omega
theorem flat_at {z : Nat} (hz : ∀ x, (ec x).length = z) : ∀ (l : List α) (k : Nat) (x : α), l[k]? = some x → ∀ j, j < z → (l.flatMap ec)[k * z + j]? = (ec x)[j]?
  | [], k, x, h, _, _ => by simp at h
  | y :: l, 0, x, h, j, hj => by
    simp only [List.getElem?_cons_zero, Option.some.injEq] at h
    subst h
    rw [List.flatMap_cons, Nat.zero_mul, Nat.zero_add, List.getElem?_append_left (by rw [hz]; exact hj)]
  | y :: l, k + 1, x, h, j, hj => by
    rw [List.flatMap_cons, List.getElem?_append_right (by rw [hz, Nat.add_mul]; omega), hz, show (k + 1) * z + j - z = k * z + j from by rw [Nat.add_mul]; omega]
    exact flat_at hz l k x (by simpa using h) j hj
theorem flat_append (a b : List α) : (a ++ b).flatMap ec = a.flatMap ec ++ b.flatMap ec := List.flatMap_append
theorem flat_take (l : List α) (k : Nat) (x : α) (h : l[k]? = some x) : (l.take (k + 1)).flatMap ec = (l.take k).flatMap ec ++ ec x := by
  rw [List.take_add_one, h, List.flatMap_append]
  simp
theorem list_of {z : Nat} : ∀ (n : Nat) (xs : List Value), xs.length = n * z → (∀ i, i < n → ∃ x, (xs.drop (i * z)).take z = ec x) → ∃ l : List α, l.length = n ∧ xs = l.flatMap ec
  | 0, xs, h, _ => ⟨[], rfl, by simpa using h⟩
  | n + 1, xs, h, hx => by
    obtain ⟨x, h0⟩ := hx 0 (by omega)
    rw [Nat.zero_mul, List.drop_zero] at h0
    have hl : z ≤ xs.length := by rw [h, Nat.add_mul]; omega
    obtain ⟨l, h1, h2⟩ := list_of (z := z) n (xs.drop z) (by rw [List.length_drop, h, Nat.add_mul]; omega) (fun i hi => by
      obtain ⟨y, hy⟩ := hx (i + 1) (by omega)
      exact ⟨y, by rw [List.drop_drop, ← hy, show z + i * z = (i + 1) * z from by rw [Nat.add_mul]; omega]⟩)
    exact ⟨x :: l, by simp [h1], by rw [List.flatMap_cons, ← h0, ← h2, List.take_append_drop]⟩
/-- a cell of an element -/
theorem Lst.at_ {W : World} {v : Value} {l : List α} {z : Nat} (hz : ∀ x, (ec x).length = z) (h : Lst ec W v l) {k : Nat} (hk : k < l.length) :
    ∃ g o c x, l[k]? = some x ∧ v = .slice (some ⟨g, o, none⟩) l.length c ∧ g < W.heap.size ∧ ∀ j, j < z → W.cell? ⟨g, o + k * z + j, none⟩ = (ec x)[j]? := by
  obtain ⟨b, o, c, rfl, hh⟩ := h
  obtain ⟨g, rfl, hg, hc⟩ := hh (fun e => by rw [e] at hk; simp at hk)
  have hx : l[k]? = some l[k] := List.getElem?_eq_getElem hk
  refine ⟨g, o, c, _, hx, rfl, hg, fun j hj => ?_⟩
  have hf := flat_at hz l k _ hx j hj
  have hjl : j < (ec l[k]).length := by rw [hz]; exact hj
  rw [List.getElem?_eq_getElem hjl] at hf ⊢
  rw [Nat.add_assoc]
  exact hc _ _ hf
end

/-- are two lists alike, element by element -/
def eqL {α : Type} (q : α → α → Bool) : List α → List α → Bool
  | [], [] => true
  | x :: l, y :: m => q x y && eqL q l m
  | _, _ => false
theorem eqL_len {α : Type} {q : α → α → Bool} : ∀ (l m : List α), l.length ≠ m.length → eqL q l m = false
  | [], [], h => absurd rfl h
  | x :: l, y :: m, h => by rw [eqL, eqL_len l m (by simpa using h), Bool.and_false]
  | [], _ :: _, _ => rfl
  | _ :: _, [], _ => rfl
theorem eqL_all {α : Type} {q : α → α → Bool} : ∀ (l m : List α), l.length = m.length → (∀ (j : Nat) (x y : α), l[j]? = some x → m[j]? = some y → q x y = true) → eqL q l m = true
  | [], [], _, _ => rfl
  | x :: l, y :: m, h, ha => by
    rw [eqL, ha 0 x y rfl rfl, eqL_all l m (by simpa using h) (fun j a b h1 h2 => ha (j + 1) a b (by simpa using h1) (by simpa using h2))]
    rfl
  | [], _ :: _, h, _ => by simp at h
  | _ :: _, [], h, _ => by simp at h
theorem eqL_no {α : Type} {q : α → α → Bool} : ∀ (l m : List α) (j : Nat) (x y : α), l[j]? = some x → m[j]? = some y → q x y = false → eqL q l m = false
  | x :: l, y :: m, 0, a, b, h1, h2, h => by
    simp only [List.getElem?_cons_zero, Option.some.injEq] at h1 h2
    subst h1 h2
    rw [eqL, h, Bool.false_and]
  | x :: l, y :: m, j + 1, a, b, h1, h2, h => by
    rw [eqL, eqL_no l m j a b (by simpa using h1) (by simpa using h2) h, Bool.and_false]
  | [], _, j, a, b, h1, _, _ => by simp at h1
  | _ :: _, [], j, a, b, _, h2, _ => by simp at h2
theorem eqL_self {α : Type} {q : α → α → Bool} (h : ∀ x, q x x = true) : ∀ l : List α, eqL q l l = true
  | [] => rfl
  | x :: l => by rw [eqL, h, eqL_self h l]; rfl

section
open Go.WideShapes Go.ChangeShapes Go.Deep
variable {H : Type} {enc : TypeId × Value → H} {P : Program} {W : World} {α : Type} {ec : α → List Value}
/-- a slice that was handed in reads as a list, if each of its elements reads as one -/
theorem lst_of_trod {t e : TypeId} {z : Nat} {v : Value} {d : DataW H} {p : List MemPlace} (ht : P.underlying t = some (.slice e)) (hz : P.cellsOf e = z) (hz0 : 0 < z) (hz1 : ∀ x, (ec x).length = z)
    (he : ∀ (n : Nat) (xs : List Value) (y : DataW H × List MemPlace), DataW.trod enc P W 0 (fun _ => true) true n e xs = some y → xs.length = z → ∃ x : α, xs = ec x)
    {n : Nat} (h : DataW.trod enc P W 0 (fun _ => true) true n t [v] = some (d, p)) : ∃ l : List α, Lst ec W v l ∧ l.length ≤ maxLen := by
  rcases open_slice ht h with ⟨h1, _⟩ | ⟨a, len, cap, m, n', D, Pl, hcs, _, hlc, hcm, hm, _, hi⟩
  · obtain rfl : v = .slice none 0 0 := by simpa using h1
    exact ⟨[], Lst.nil, Nat.zero_le _⟩
  · obtain rfl : v = .slice (some a) len cap := by simpa using hcs
    simp only [if_true] at hm
    subst hm
    have hat : ∀ i, i < len → ∃ x : α, ∀ j, j < z → W.cell? (a.add (i * z + j)) = (ec x)[j]? := by
      intro i hi'
      obtain ⟨cs', hc, hy⟩ := hi i (by omega)
      rw [hz] at hc
      obtain ⟨_, hlen, hcell⟩ := World.cells?_some hc
      obtain ⟨x, rfl⟩ := he _ _ _ hy hlen
      refine ⟨x, fun j hj => ?_⟩
      rw [← hcell j hj, Go.Deep.add_add]
    rcases Nat.eq_zero_or_pos len with h0 | h0
    · subst h0
      exact ⟨[], ⟨some a, 0, _, rfl, fun hne => absurd rfl hne⟩, Nat.zero_le _⟩
    · let xs : List Value := (List.range (len * z)).map fun j => (W.cell? (a.add j)).getD undef
      have hxs : xs.length = len * z := by simp [xs]
      have hpart : ∀ i, i < len → ∃ x : α, (xs.drop (i * z)).take z = ec x := by
        intro i hi'
        obtain ⟨x, hx⟩ := hat i hi'
        refine ⟨x, List.ext_getElem? fun j => ?_⟩
        have hle : i * z + z ≤ len * z := by
          have := Nat.mul_le_mul_right z (show i + 1 ≤ len from hi')
          rw [Nat.add_mul, Nat.one_mul] at this
          exact this
        by_cases hj : j < z
        · rw [List.getElem?_take_of_lt hj, List.getElem?_drop]
          have hj' : j < (ec x).length := by rw [hz1]; exact hj
          simp only [xs, List.getElem?_map, List.getElem?_range (show i * z + j < len * z by omega), Option.map_some]
          rw [hx j hj, List.getElem?_eq_getElem hj']
          rfl
        · rw [List.getElem?_eq_none (by simp; omega), List.getElem?_eq_none (by rw [hz1]; omega)]
      obtain ⟨l, hl, hxl⟩ := list_of len xs hxs hpart
      subst hl
      refine ⟨l, ?_, Nat.le_trans hlc hcm⟩
      obtain ⟨x0, hx0⟩ := hat 0 h0
      have hc0 : W.cell? a ≠ none := by
        have := hx0 0 hz0
        rw [Nat.zero_mul, Nat.add_zero] at this
        have ha0 : a.add 0 = a := by simp [Addr.add]
        rw [ha0] at this
        rw [this, List.getElem?_eq_getElem (by rw [hz1]; exact hz0)]
        simp
      obtain ⟨ab, ao, asp⟩ := a
      have hsp : asp = none := by
        rcases asp with _ | s
        · rfl
        · exfalso
          apply hc0
          unfold World.cell?
          split <;> simp
      subst hsp
      refine ⟨_, ao, _, rfl, fun _ => ⟨ab, rfl, ?_, fun j u hj => ?_⟩⟩
      · rcases Nat.lt_or_ge ab W.heap.size with h | h
        · exact h
        · exfalso
          apply hc0
          unfold World.cell?
          rw [Array.getElem?_eq_none h]
      · have hjl : j < l.length * z := by
          have := (List.getElem?_eq_some_iff.1 hj).1
          rwa [flat_len hz1] at this
        have hadd : (⟨ab, ao, none⟩ : Addr).add j = ⟨ab, ao + j, none⟩ := by
          unfold Addr.add
          split
          · rename_i h0; subst h0; rfl
          · rfl
        rw [← hxl] at hj
        simp only [xs, List.getElem?_map, List.getElem?_range hjl, Option.map_some, Option.some.injEq] at hj
        rw [hadd] at hj
        have hsome : ∃ y, W.cell? ⟨ab, ao + j, none⟩ = some y := by
          have hq : j / z < l.length := Nat.div_lt_of_lt_mul (by rw [Nat.mul_comm]; exact hjl)
          obtain ⟨x, hx⟩ := hat (j / z) hq
          have hr := hx (j % z) (Nat.mod_lt _ hz0)
          rw [show j / z * z + j % z = j from by rw [Nat.mul_comm]; exact Nat.div_add_mod j z, hadd] at hr
          exact ⟨_, hr.trans (List.getElem?_eq_getElem (by rw [hz1]; exact Nat.mod_lt _ hz0))⟩
        obtain ⟨y, hy⟩ := hsome
        rw [hy] at hj
        rw [hy, ← hj]
        rfl
theorem open_lst {t e : TypeId} {z : Nat} {r : Reach} {b0 : Nat} {v : Value} {d : DataW H} {p : List MemPlace} (ht : P.underlying t = some (.slice e)) (hz : P.cellsOf e = z) (hz0 : 0 < z) (hz1 : ∀ x, (ec x).length = z)
    (he : ∀ (n : Nat) (xs : List Value) (y : DataW H × List MemPlace), DataW.trod enc P W 0 (fun _ => true) true n e xs = some y → xs.length = z → ∃ x : α, xs = ec x)
    (hv : Value.okWide P W r b0 t v) (h : DataW.Trod enc P W 0 (fun _ => true) true t v d p) : ∃ l : List α, Lst ec W v l ∧ l.length ≤ maxLen := by
  obtain ⟨a, len, cap, rfl⟩ := okWide_slice ht hv
  obtain ⟨n, hn⟩ := h
  exact lst_of_trod ht hz hz0 hz1 he hn
/-- the elements' readings -/
theorem trod_string_is {e : TypeId} {n : Nat} {xs : List Value} {y : DataW H × List MemPlace} (he : P.underlying e = some .string) (h : DataW.trod enc P W 0 (fun _ => true) true n e xs = some y) : ∃ s : ByteArray, xs = [.string s] ∧ s.size ≤ maxLen := by
  cases n with
  | zero => simp [DataW.trod] at h
  | succ n =>
    unfold DataW.trod at h
    rw [he] at h
    split at h <;> simp_all
theorem trod_int_is {e : TypeId} {k : IntKind} {n : Nat} {xs : List Value} {y : DataW H × List MemPlace} (he : P.underlying e = some (.int k)) (h : DataW.trod enc P W 0 (fun _ => true) true n e xs = some y) : ∃ x : Int, xs = [.int k x] ∧ (Lit.int k x).wf = true := by
  cases n with
  | zero => simp [DataW.trod] at h
  | succ n =>
    unfold DataW.trod at h
    rw [he] at h
    split at h <;> simp_all
theorem trod_bool_is {e : TypeId} {n : Nat} {xs : List Value} {y : DataW H × List MemPlace} (he : P.underlying e = some .bool) (h : DataW.trod enc P W 0 (fun _ => true) true n e xs = some y) : ∃ x : Bool, xs = [.bool x] := by
  cases n with
  | zero => simp [DataW.trod] at h
  | succ n =>
    unfold DataW.trod at h
    rw [he] at h
    split at h <;> simp_all
end
end Go.Proofs.Ytadodccciejghaa
