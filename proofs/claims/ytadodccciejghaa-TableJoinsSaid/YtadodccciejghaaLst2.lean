/- What was handed in reads as a list whose things have a property; append of such a slice to a row of the call's own. -/
import Derived.Test.YtadodccciejghaaLst
import Derived.Laws.AppendOwn
import Derived.Laws.AppendOwnNone
namespace Go.Proofs.Ytadodccciejghaa
open Go.RowKit

/-- a nil slice has no room -/
def NilFine (v : Value) : Prop := ∀ n c, v = .slice none n c → n = 0 ∧ c = 0
theorem nilFine_row {W : World} {B : Nat} {e : TypeId} {z : Nat} {v : Value} {n : Nat} {xs : List Value} (h : W.ownsRow B e z v n xs) : NilFine v := by
  intro m c hv
  rcases h.2 with ⟨rfl, _⟩ | ⟨g, cap, cur, rfl, _⟩
  · cases hv; exact ⟨rfl, rfl⟩
  · cases hv
theorem wpList_append_lst {α : Type} {ec : α → List Value} {P : Program} {w : World} {ops : Array Oper} {rest : List Oper} {o : Oper} {a : Act} {Q : Exit → Act → World → Prop} (hgd : o.guard = none) (s x : Operand) (t : TypeId)
    (ho : o.op = .call { callee := .builtin .append, args := #[s, x], argTypes := #[t, t] })
    (base : Nat) (e : TypeId) (i : TypeInfo) (z : Value) (size bytes : Nat) (ht : P.underlying t = some (.slice e)) (hi : P.info? e = some i) (hz : i.zero = some z)
    (hsize : i.size = size) (hby : i.bytes = bytes) (hzs : z.cells.size = size) (hsz : 0 < size)
    (v : Value) (n : Nat) (xs : List Value) (hs : a.eval s = v) (hown : w.ownsRow base e size v n xs)
    (u : Value) (l : List α) (hx : a.eval x = u) (hu : Lst ec w u l) (hn : NilFine u) (hec : ∀ x, (ec x).length = size) (h1 : ∀ y ∈ l.flatMap ec, y.oneCell' = true)
    (h63 : n + l.length ≤ maxLen) (hbytes : (n + l.length) * bytes ≤ 140737488355328) (hbase : base ≤ w.heap.size)
    (h : ∀ v' w', w'.ownsRow base e size v' (n + l.length) (xs ++ l.flatMap ec) → w.grownBy w' v.ownBlock → wpList P ops Q rest (a.put o.dst v') w') : wpList P ops Q (o :: rest) a w := by
  obtain ⟨b, of, c, rfl, hh⟩ := hu
  cases b with
  | none =>
    obtain ⟨hl, rfl⟩ := hn _ _ rfl
    have hl0 : l = [] := List.eq_nil_of_length_eq_zero hl
    subst hl0
    exact wpList_append_own_none hgd s x t ho base e i size ht hi v n xs hs hown hx (h v w (by simpa using hown) (World.grownBy.refl w _))
  | some ad =>
    refine wpList_append_own w hgd s x t ho base e i z size bytes ht hi hz hsize hby hzs hsz v n xs hs hown ad l.length c (l.flatMap ec) hx (by rw [flat_len hec]) (fun j y hj => ?_) h1 h63 hbytes hbase (fun v' w' h2 h3 _ => h v' w' h2 h3)
    obtain ⟨g, he, _, hc⟩ := hh (fun e => by subst e; simp at hj)
    injection he with he
    subst he
    have := hc j y hj
    have hadd : (⟨g, of, none⟩ : Addr).add j = ⟨g, of + j, none⟩ := by
      unfold Addr.add
      split
      · rename_i h0; subst h0; rfl
      · rfl
    rw [hadd]
    exact this
section
open Go.WideShapes Go.ChangeShapes Go.Deep
variable {H : Type} {enc : TypeId × Value → H} {P : Program} {W : World} {α : Type} {ec : α → List Value} {Q : α → Prop}
theorem open_lstQ {t e : TypeId} {z : Nat} {r : Reach} {b0 : Nat} {v : Value} {d : DataW H} {p : List MemPlace} (ht : P.underlying t = some (.slice e)) (hz : P.cellsOf e = z) (hz0 : 0 < z) (hz1 : ∀ x, (ec x).length = z)
    (he : ∀ (n : Nat) (xs : List Value) (y : DataW H × List MemPlace), DataW.trod enc P W 0 (fun _ => true) true n e xs = some y → xs.length = z → ∃ x : α, xs = ec x ∧ Q x)
    (hv : Value.okWide P W r b0 t v) (h : DataW.Trod enc P W 0 (fun _ => true) true t v d p) : ∃ l : List α, Lst ec W v l ∧ l.length ≤ maxLen ∧ (∀ x ∈ l, Q x) ∧ NilFine v := by
  obtain ⟨l, hl, hlen⟩ := open_lst (ec := fun x : { x : α // Q x } => ec x.1) ht hz hz0 (fun x => hz1 x.1) (fun n xs y h hl => by
    obtain ⟨x, hx, hq⟩ := he n xs y h hl
    exact ⟨⟨x, hq⟩, hx⟩) hv h
  have hfm : (l.map (·.1)).flatMap ec = l.flatMap (fun x => ec x.1) := by rw [List.flatMap_map]
  refine ⟨l.map (·.1), ?_, by simpa using hlen, fun x hx => ?_, ?_⟩
  · obtain ⟨b, o, c, rfl, hh⟩ := hl
    refine ⟨b, o, c, by simp, fun hne => ?_⟩
    obtain ⟨g, e1, e2, e3⟩ := hh (fun e => hne (by rw [e]; rfl))
    exact ⟨g, e1, e2, by rw [hfm]; exact e3⟩
  · obtain ⟨y, _, rfl⟩ := List.mem_map.1 hx
    exact y.2
  · obtain ⟨a, len, cap, rfl⟩ := okWide_slice ht hv
    obtain ⟨n, hn⟩ := h
    rcases open_slice ht hn with ⟨h1, _⟩ | ⟨a', len', cap', m, n', D, Pl, hcs, _⟩
    · intro k c hk
      simp [Value.cells] at h1
      cases hk
      exact h1.2
    · intro k c hk
      simp [Value.cells] at hcs
      cases hk
      cases hcs.1
end
end Go.Proofs.Ytadodccciejghaa
