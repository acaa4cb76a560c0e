import Derived.Test.YtbhoeanfnbkenaaGreatDoorR12
import Derived.Test.YtbhoeanfnbkenaaGreatDoorR2
namespace Go.Proofs.YtbhoeanfnbkenaaGreatDoor
open Go.RowKit
set_option maxRecDepth 100000
set_option linter.unusedSimpArgs false
structure May (c : Ci) : Prop where
 once : (z2 c).Nodup
theorem zmk {α β : Type} (f : β → α → β) (b : β) {l : List α} {k : Nat} {x : α} (h : l[k]? = some x) : (l.take (k + 1)).foldl f b = f ((l.take k).foldl f b) x := by
 rw [List.take_add_one, h, List.foldl_append]
 rfl
def zdY (L : ByteArray → Option (List ByteArray)) (s : ByteArray) (x : List ByteArray) : ByteArray → Option (List ByteArray) := fun t => if zcf t s = true then some x else L t
theorem zml (L : ByteArray → Option (List ByteArray)) (s : ByteArray) (x : List ByteArray) : zdY L s x s = some x := by
 unfold zdY
 rw [if_pos ((zcg _ _).2 rfl)]
theorem zmm {L : ByteArray → Option (List ByteArray)} {s t : ByteArray} {x : List ByteArray} (h : t ≠ s) : zdY L s x t = L t := by
 unfold zdY
 rw [if_neg (fun e => h ((zcg _ _).1 e))]
inductive Rch (L : ByteArray → Option (List ByteArray)) (nets : List ByteArray) : ByteArray → Prop where
 | base {s : ByteArray} : s ∈ nets → L s ≠ none → Rch L nets s
 | step {s x : ByteArray} {l : List ByteArray} : Rch L nets s → L s = some l → x ∈ l → L x ≠ none → Rch L nets x
def zdl (M : ByteArray → Bool) (s : ByteArray) : ByteArray → Bool := fun t => zcf t s || M t
theorem zdm (M : ByteArray → Bool) (s t : ByteArray) : zdl M s t = true ↔ t = s ∨ M t = true := by
 unfold zdl
 rw [Bool.or_eq_true, zcg]
structure MkI (L : ByteArray → Option (List ByteArray)) (nets t : List ByteArray) (M : ByteArray → Bool) : Prop where
 sound : ∀ s, M s = true → Rch L nets s
 todo : ∀ s ∈ t, L s ≠ none → Rch L nets s
 base : ∀ s ∈ nets, L s ≠ none → s ∈ t ∨ M s = true
 closed : ∀ s, M s = true → ∀ l, L s = some l → ∀ x ∈ l, L x ≠ none → x ∈ t ∨ M x = true
theorem MkI.start (L : ByteArray → Option (List ByteArray)) (nets : List ByteArray) : MkI L nets nets (fun _ => false) :=
 ⟨fun _ h => (by cases h), fun _ h h2 => Rch.base h h2, fun _ h _ => Or.inl h, fun _ h => (by cases h)⟩
theorem MkI.skip {L : ByteArray → Option (List ByteArray)} {nets t : List ByteArray} {M : ByteArray → Bool} {s : ByteArray} (h : MkI L nets (t ++ [s]) M) (hs : L s = none ∨ M s = true) : MkI L nets t M := by
 have key : ∀ x, L x ≠ none → (x ∈ t ++ [s] ∨ M x = true) → x ∈ t ∨ M x = true := fun x hx hh => by
  rcases hh with hh | hh
  ·rcases List.mem_append.1 hh with hh | hh
   ·exact .inl hh
   ·rw [List.mem_singleton] at hh
    subst hh
    rcases hs with hs | hs
    ·exact absurd hs hx
    ·exact .inr hs
  ·exact .inr hh
 exact ⟨h.sound, fun x hx => h.todo x (List.mem_append_left _ hx), fun x hx h2 => key x h2 (h.base x hx h2), fun x hx l hl y hy h2 => key y h2 (h.closed x hx l hl y hy h2)⟩
theorem MkI.mark {L : ByteArray → Option (List ByteArray)} {nets t l : List ByteArray} {M : ByteArray → Bool} {s : ByteArray} (h : MkI L nets (t ++ [s]) M) (hs : L s = some l) : MkI L nets (t ++ l) (zdl M s) := by
 have hr : Rch L nets s := h.todo s (List.mem_append_right _ (List.mem_singleton.2 rfl)) (by rw [hs]; exact fun e => by cases e)
 have key : ∀ x, (x ∈ t ++ [s] ∨ M x = true) → x ∈ t ++ l ∨ zdl M s x = true := fun x hh => by
  rcases hh with hh | hh
  ·rcases List.mem_append.1 hh with hh | hh
   ·exact .inl (List.mem_append_left _ hh)
   ·exact .inr ((zdm _ _ _).2 (.inl (List.mem_singleton.1 hh)))
  ·exact .inr ((zdm _ _ _).2 (.inr hh))
 refine ⟨fun x hx => ?_, fun x hx h2 => ?_, fun x hx h2 => key x (h.base x hx h2), fun x hx l' hl' y hy h2 => ?_⟩
 ·rcases (zdm _ _ _).1 hx with rfl | hx
  ·exact hr
  ·exact h.sound x hx
 ·rcases List.mem_append.1 hx with hx | hx
  ·exact h.todo x (List.mem_append_left _ hx) h2
  ·exact .step hr hs hx h2
 ·rcases (zdm _ _ _).1 hx with rfl | hx
  ·rw [hs] at hl'
   cases hl'
   exact .inl (List.mem_append_right _ hy)
  ·exact key y (h.closed x hx l' hl' y hy h2)
theorem MkI.done {L : ByteArray → Option (List ByteArray)} {nets : List ByteArray} {M : ByteArray → Bool} (h : MkI L nets [] M) (s : ByteArray) : M s = true ↔ Rch L nets s := by
 refine ⟨h.sound s, fun hr => ?_⟩
 induction hr with
 | base h1 h2 => exact (h.base _ h1 h2).resolve_left (fun e => by cases e)
 | step _ h2 h3 h4 ih => exact (h.closed _ ih _ h2 _ h3 h4).resolve_left (fun e => by cases e)
def LeB (a b : Nat → Bool) : Prop := ∀ j, a j = true → b j = true
theorem LeB.updB (th : Nat → Bool) (i : Nat) : LeB th (updB th i) := fun j h => by
 unfold Go.Proofs.YtbhoeanfnbkenaaGreatDoor.updB
 rw [h, Bool.or_true]
theorem LeB.trans {a b c : Nat → Bool} (h : LeB a b) (k : LeB b c) : LeB a c := fun j hj => k j (h j hj)
theorem zmn (th : Nat → Bool) (i : Nat) : updB th i i = true := by
 unfold updB
 simp
end Go.Proofs.YtbhoeanfnbkenaaGreatDoor
