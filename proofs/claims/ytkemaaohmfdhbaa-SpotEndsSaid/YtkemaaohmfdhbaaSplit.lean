/- The lines of a text, plain. -/
import Derived.Lib.Bytealg
import Derived.Lib.IndexLaws
namespace Go.Proofs.Ytkemaaohmfdhbaa
open Go.Lib

/-- what is between the line ends -/
def lns : List UInt8 → List (List UInt8)
  | [] => [[]]
  | b :: l => if b = 10 then [] :: lns l else match lns l with
    | x :: xs => (b :: x) :: xs
    | [] => [[b]]

theorem lns_ne (l : List UInt8) : lns l ≠ [] := by
  cases l with
  | nil => simp [lns]
  | cons b l => simp only [lns]; split <;> (try split) <;> simp
theorem lns_none (l : List UInt8) : indexByte l 10 = -1 → lns l = [l] := by
  induction l with
  | nil => intro _; rfl
  | cons b l ih =>
    intro h
    have hg := indexByte_ge l 10
    rw [indexByte] at h
    by_cases hb : b = 10
    · subst hb; simp at h
    · rw [if_neg (by simpa using hb)] at h
      have h1 : indexByte l 10 = -1 := by
        by_cases hl : indexByte l 10 = -1
        · exact hl
        · rw [if_neg (by simpa using hl)] at h; omega
      rw [lns, if_neg hb, ih h1]
theorem lns_some (l : List UInt8) : ∀ e : Nat, indexByte l 10 = e → e < l.length ∧ lns l = l.take e :: lns (l.drop (e + 1)) := by
  induction l with
  | nil => intro e h; simp [indexByte] at h
  | cons b l ih =>
    intro e h
    have hg := indexByte_ge l 10
    rw [indexByte] at h
    by_cases hb : b = 10
    · subst hb; simp at h; obtain rfl : e = 0 := by omega
      simp [lns]
    · rw [if_neg (by simpa using hb)] at h
      by_cases hl : indexByte l 10 = -1
      · rw [if_pos (by simpa using hl)] at h; omega
      · rw [if_neg (by simpa using hl)] at h
        obtain ⟨d, hd⟩ : ∃ d : Nat, indexByte l 10 = d := ⟨(indexByte l 10).toNat, by omega⟩
        obtain rfl : e = d + 1 := by omega
        have := ih d hd
        refine ⟨by simp; omega, ?_⟩
        rw [lns, if_neg hb, this.2]
        simp
theorem lns_len (l : List UInt8) : (lns l).length ≤ l.length + 1 := by
  induction l with
  | nil => simp [lns]
  | cons b l ih =>
    have := lns_ne l
    simp only [lns]
    split
    · simp; omega
    · split
      · rename_i x xs h; rw [h] at ih; simp at ih ⊢; omega
      · rename_i h; exact absurd h this
end Go.Proofs.Ytkemaaohmfdhbaa
