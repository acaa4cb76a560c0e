import Derived.Test.YtbhoeanfnbkenaaGreatDoorR20
import Derived.Test.YtbhoeanfnbkenaaGreatDoorR18
namespace Go.Proofs.YtbhoeanfnbkenaaGreatDoor
open Go.RowKit Go.WideMaps
set_option maxRecDepth 100000
set_option linter.unusedSimpArgs false
variable (Hy : World → Prop)
attribute [local irreducible] zU zY cwp z1 z6 lpQ z8 asQ bdQ bdY zab zac zad zaa
structure MOk (c : Ci) : Prop extends COk c where
 sin : ∀ s ∈ c.ins, s.size ≤ 1000000
 sla : ∀ x ∈ c.las, x.name.size ≤ 1000000 ∧ x.next.size ≤ 1000000
 may : May c
 n2 : (z2 c).length ≤ 200
def LVal (G : Nat → O) (n : Nat) (v : A) (l : List ByteArray) : Prop := (v = .nilS ∧ l = []) ∨ v = .t (.sl (sR l)) ∨ ∃ k g, k < n ∧ v = .row (wid k) g ∧ G (wid k) = ⟨g, .row 9 1 (sR l)⟩
theorem LVal.mono {G G' : Nat → O} {n n' : Nat} {v : A} {l : List ByteArray} (h : LVal G n v l) (hn : n ≤ n') (hG : ∀ k, k < n → G' (wid k) = G (wid k)) : LVal G' n' v l := by
 rcases h with h | h | ⟨k, g, hk, h1, h2⟩
 ·exact .inl h
 ·exact .inr (.inl h)
 ·exact .inr (.inr ⟨k, g, by omega, h1, by rw [hG k hk]; exact h2⟩)
def LdM (E : List (Ky × A)) (G : Nat → O) (n : Nat) (L : ByteArray → Option (List ByteArray)) : Prop := ∀ s, (L s = none → zam E (.s s) = none) ∧ ∀ l, L s = some l → ∃ v, zam E (.s s) = some v ∧ LVal G n v l
theorem LdM.mono {E : List (Ky × A)} {G G' : Nat → O} {n n' : Nat} {L : ByteArray → Option (List ByteArray)} (h : LdM E G n L) (hn : n ≤ n') (hG : ∀ k, k < n → G' (wid k) = G (wid k)) : LdM E G' n' L := fun s => ⟨(h s).1, fun l hl => by
 obtain ⟨v, h1, h2⟩ := (h s).2 l hl
 exact ⟨v, h1, h2.mono hn hG⟩⟩
theorem LdM.put {E : List (Ky × A)} {G : Nat → O} {n : Nat} {L : ByteArray → Option (List ByteArray)} (h : LdM E G n L) (s : ByteArray) {v : A} {l : List ByteArray} (hv : LVal G n v l) : LdM (zaE E (.s s) v) G n (zdY L s l) := fun t => by
 rw [zcC]
 by_cases e : t = s
 ·subst e
  rw [zml, if_pos rfl]
  exact ⟨fun e => (by cases e), fun l' e => ⟨v, rfl, by cases e; exact hv⟩⟩
 ·rw [zmm e, if_neg (fun e2 => e (by injection e2))]
  exact h t
def MkM (E : List (Ky × A)) (M : ByteArray → Bool) : Prop := ∀ s, zam E (.s s) = if M s = true then some (.ag []) else none
theorem MkM.put {E : List (Ky × A)} {M : ByteArray → Bool} (h : MkM E M) (s : ByteArray) : MkM (zaE E (.s s) (.ag [])) (zdl M s) := fun t => by
 rw [zcC]
 by_cases e : t = s
 ·subst e
  rw [if_pos rfl, if_pos ((zdm _ _ _).2 (.inl rfl))]
 ·rw [if_neg (fun e2 => e (by injection e2)), h t]
  have : zdl M s t = M t := by
   rw [Bool.eq_iff_iff, zdm]
   exact ⟨fun h => h.resolve_left e, .inr⟩
  rw [this]
def zli (i : Nat) : Prop := i = 2005 ∨ (6400 ≤ i ∧ i < 6500) ∨ 10000 ≤ i
def FrM (o o' : Nat → O) : Prop := ∀ i, ¬ zli i → o' i = o i
theorem FrM.refl (o : Nat → O) : FrM o o := fun _ _ => rfl
theorem FrM.trans {o o1 o2 : Nat → O} (h : FrM o o1) (k : FrM o1 o2) : FrM o o2 := fun i hi => (k i hi).trans (h i hi)
end Go.Proofs.YtbhoeanfnbkenaaGreatDoor
