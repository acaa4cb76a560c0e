/- What was handed in reads as a list whose things have a property, inside of other things too. -/
import Derived.Test.YtadodccciejghaaLst2
namespace Go.Proofs.Ytadodccciejghaa
open Go.RowKit

/-- a slice is no longer than its room -/
def CapFine (v : Value) : Prop := ∀ b n c, v = .slice b n c → n ≤ c
theorem capFine_row {W : World} {B : Nat} {e : TypeId} {z : Nat} {v : Value} {n : Nat} {xs : List Value} (h : W.ownsRow B e z v n xs) : CapFine v := by
  intro b m c hv
  rcases h.2 with ⟨rfl, hn⟩ | ⟨g, cap, cur, rfl, _, _, hh, _⟩
  · cases hv; exact Nat.le_refl _
  · cases hv; exact hh
section
open Go.WideShapes Go.ChangeShapes Go.Deep
variable {H : Type} {enc : TypeId × Value → H} {P : Program} {W : World} {α : Type} {ec : α → List Value} {Q : α → Prop}
theorem lst_of_trodQ {t e : TypeId} {z : Nat} {v : Value} {d : DataW H} {p : List MemPlace} (ht : P.underlying t = some (.slice e)) (hz : P.cellsOf e = z) (hz0 : 0 < z) (hz1 : ∀ x, (ec x).length = z)
    (he : ∀ (n : Nat) (xs : List Value) (y : DataW H × List MemPlace), DataW.trod enc P W 0 (fun _ => true) true n e xs = some y → xs.length = z → ∃ x : α, xs = ec x ∧ Q x)
    {n : Nat} (h : DataW.trod enc P W 0 (fun _ => true) true n t [v] = some (d, p)) : ∃ l : List α, Lst ec W v l ∧ l.length ≤ maxLen ∧ (∀ x ∈ l, Q x) ∧ NilFine v ∧ CapFine v := by
  obtain ⟨l, hl, hlen⟩ := lst_of_trod (ec := fun x : { x : α // Q x } => ec x.1) ht hz hz0 (fun x => hz1 x.1) (fun n xs y h hl => by
    obtain ⟨x, hx, hq⟩ := he n xs y h hl
    exact ⟨⟨x, hq⟩, hx⟩) h
  have hfm : (l.map (·.1)).flatMap ec = l.flatMap (fun x => ec x.1) := by rw [List.flatMap_map]
  refine ⟨l.map (·.1), ?_, by simpa using hlen, fun x hx => ?_, ?_, ?_⟩
  · obtain ⟨b, o, c, rfl, hh⟩ := hl
    refine ⟨b, o, c, by simp, fun hne => ?_⟩
    obtain ⟨g, e1, e2, e3⟩ := hh (fun e => hne (by rw [e]; rfl))
    exact ⟨g, e1, e2, by rw [hfm]; exact e3⟩
  · obtain ⟨y, _, rfl⟩ := List.mem_map.1 hx
    exact y.2
  · rcases open_slice ht h with ⟨h1, _⟩ | ⟨a', len', cap', m, n', D, Pl, hcs, _⟩
    · intro k c hk
      simp at h1
      rw [h1] at hk
      cases hk
      exact ⟨rfl, rfl⟩
    · intro k c hk
      simp at hcs
      rw [hcs] at hk
      cases hk
  · rcases open_slice ht h with ⟨h1, _⟩ | ⟨a', len', cap', m, n', D, Pl, hcs, _, hlc, _⟩
    · intro b k c hk
      simp at h1
      rw [h1] at hk
      cases hk
      exact Nat.le_refl _
    · intro b k c hk
      simp at hcs
      rw [hcs] at hk
      cases hk
      exact hlc
theorem open_lstC {t e : TypeId} {z : Nat} {r : Reach} {b0 : Nat} {v : Value} {d : DataW H} {p : List MemPlace} (ht : P.underlying t = some (.slice e)) (hz : P.cellsOf e = z) (hz0 : 0 < z) (hz1 : ∀ x, (ec x).length = z)
    (he : ∀ (n : Nat) (xs : List Value) (y : DataW H × List MemPlace), DataW.trod enc P W 0 (fun _ => true) true n e xs = some y → xs.length = z → ∃ x : α, xs = ec x ∧ Q x)
    (hv : Value.okWide P W r b0 t v) (h : DataW.Trod enc P W 0 (fun _ => true) true t v d p) : ∃ l : List α, Lst ec W v l ∧ l.length ≤ maxLen ∧ (∀ x ∈ l, Q x) ∧ NilFine v ∧ CapFine v := by
  obtain ⟨a, len, cap, rfl⟩ := okWide_slice ht hv
  obtain ⟨n, hn⟩ := h
  exact lst_of_trodQ ht hz hz0 hz1 he hn
/-- the parts of a struct that was handed in: each one's cells -/
theorem struct_parts {t : TypeId} (hu : P.underlying t = some (.struct (P.fieldsOf t))) {n : Nat} {xs : List Value} {y : DataW H × List MemPlace} (h : DataW.trod enc P W 0 (fun _ => true) true n t xs = some y) :
    ∃ m : Nat, ∀ (j : Nat) (f : Field), (P.fieldsOf t)[j]? = some f → ∃ y', DataW.trod enc P W 0 (fun _ => true) true m f.type ((xs.drop f.offset).take (P.cellsOf f.type)) = some y' := by
  obtain ⟨ys, m, _, _, _, hys, hf⟩ := DataW.trod_struct hu h
  refine ⟨m, fun j f hj => ?_⟩
  have hj2 : j < ys.length := by rw [hys]; exact (Array.getElem?_eq_some_iff.1 hj).1
  exact ⟨_, (hf j f hj).trans (List.getElem?_eq_getElem hj2)⟩
end
end Go.Proofs.Ytadodccciejghaa
