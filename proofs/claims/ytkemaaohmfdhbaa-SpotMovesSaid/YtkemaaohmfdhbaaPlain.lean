/- Plain facts on lines and columns, no program. -/
import Derived.Lib.Bytealg
namespace Go.Proofs.Ytkemaaohmfdhbaa

/-- one byte further -/
def stp (p : Int × Int) (b : UInt8) : Int × Int := if b = 10 then (p.1 + 1, 1) else (p.1, p.2 + 1)
/-- who goes over bytes -/
def mv (p : Int × Int) (l : List UInt8) : Int × Int := l.foldl stp p
/-- how many line ends -/
def ends (l : List UInt8) : Nat := l.count 10
/-- the place of the last line end, -1 if there is none -/
def lastIx : List UInt8 → Int
  | [] => -1
  | b :: l => if lastIx l = -1 then (if b = 10 then 0 else -1) else lastIx l + 1

theorem mv_append (p : Int × Int) (l m : List UInt8) : mv p (l ++ m) = mv (mv p l) m := by simp [mv]
theorem mv_snoc (p : Int × Int) (l : List UInt8) (b : UInt8) : mv p (l ++ [b]) = stp (mv p l) b := by simp [mv]
theorem mv_nil (p : Int × Int) : mv p [] = p := rfl
theorem mv_cons (p : Int × Int) (b : UInt8) (l : List UInt8) : mv p (b :: l) = mv (stp p b) l := rfl

theorem lastIx_snoc (l : List UInt8) (b : UInt8) : lastIx (l ++ [b]) = if b = 10 then (l.length : Int) else lastIx l := by
  induction l with
  | nil => simp [lastIx]
  | cons a l ih =>
    simp only [List.cons_append, lastIx, ih, List.length_cons]
    split
    · rw [if_neg (by omega)]; simp
    · rfl
theorem ends_cons (b : UInt8) (l : List UInt8) : ends (b :: l) = ends l + if b = 10 then 1 else 0 := by
  unfold ends
  rw [List.count_cons]
  by_cases h : b = 10
  · subst h; simp
  · simp [h]
theorem ends_append (l m : List UInt8) : ends (l ++ m) = ends l + ends m := by unfold ends; rw [List.count_append]
theorem ends_snoc (l : List UInt8) (b : UInt8) : ends (l ++ [b]) = ends l + if b = 10 then 1 else 0 := by
  rw [ends_append, ends_cons]; simp [ends]
theorem lastIx_bd (l : List UInt8) : -1 ≤ lastIx l ∧ lastIx l < l.length := by
  induction l with
  | nil => simp [lastIx]
  | cons a l ih => simp only [lastIx, List.length_cons]; split <;> (try split) <;> omega
theorem ends_le (l : List UInt8) : ends l ≤ l.length := List.count_le_length
theorem lastIx_none (l : List UInt8) : lastIx l = -1 ↔ ends l = 0 := by
  induction l with
  | nil => simp [lastIx, ends]
  | cons a l ih =>
    have h := lastIx_bd l
    rw [ends_cons, lastIx]
    split <;> rename_i h1
    · have := ih.1 h1
      split <;> simp <;> omega
    · have : ends l ≠ 0 := fun e => h1 (ih.2 e)
      split <;> simp <;> omega

/-- what the program reckons is what one reckons byte by byte -/
theorem mv_eq (l : List UInt8) : ∀ (p : Int × Int), mv p l = if ends l = 0 then (p.1, p.2 + l.length) else (p.1 + ends l, l.length - lastIx l) := by
  induction l with
  | nil => intro p; simp [mv, ends]
  | cons b l ih =>
    intro p
    have h := lastIx_bd l
    have hn := lastIx_none l
    rw [mv_cons, ih, ends_cons, lastIx, List.length_cons]
    by_cases hb : b = 10
    · simp only [stp, if_pos hb]
      by_cases h0 : ends l = 0
      · rw [if_pos h0, if_neg (by omega), if_pos (hn.2 h0)]; simp [h0]; omega
      · rw [if_neg h0, if_neg (by omega), if_neg (fun e => h0 (hn.1 e))]; ext <;> simp <;> omega
    · simp only [stp, if_neg hb, Nat.add_zero]
      by_cases h0 : ends l = 0
      · rw [if_pos h0, if_pos h0]; ext <;> simp; omega
      · rw [if_neg h0, if_neg h0, if_neg (fun e => h0 (hn.1 e))]; ext <;> simp; omega
theorem mv_bd (p : Int × Int) (l : List UInt8) (K : Int) (h1 : -K ≤ p.1) (h2 : p.1 ≤ K) (h3 : -K ≤ p.2) (h4 : p.2 ≤ K) (hk : 1 ≤ K) :
    -K ≤ (mv p l).1 ∧ (mv p l).1 ≤ K + l.length ∧ -K ≤ (mv p l).2 ∧ (mv p l).2 ≤ K + l.length := by
  have h := ends_le l
  have h' := lastIx_bd l
  rw [mv_eq]
  split <;> simp <;> omega
end Go.Proofs.Ytkemaaohmfdhbaa
