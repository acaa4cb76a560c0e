/- Numbers as bytes, plain: order. -/
import Derived.Test.YtkemaaohmfdhbaaDoorPlain2
import Derived.Sort.Walk0
namespace Go.Proofs.YtkemaaohmfdhbaaDoor
open Go.Lib

theorem dec_inj {a b : Nat} (h : decDigits a = decDigits b) : a = b := by rw [← dec_val a, h, dec_val]
theorem grp_inj {a b : Nat} (h : grp a = grp b) : a = b := by rw [← gval_grp a, h, gval_grp]
theorem dec_mono : ∀ (b a : Nat), a ≤ b → (decDigits a).length ≤ (decDigits b).length := by
  intro b
  induction b using Nat.strongRecOn with
  | _ b ih =>
    intro a h
    by_cases ha : a < 10
    · rw [dec_small ha]
      exact dec_pos b
    · rw [dec_big ha, dec_big (show ¬ b < 10 by omega)]
      have := ih (b / 10) (by omega) (a / 10) (by omega)
      simp; omega
theorem grp_mono : ∀ (b a : Nat), a ≤ b → (grp a).length ≤ (grp b).length := by
  intro b
  induction b using Nat.strongRecOn with
  | _ b ih =>
    intro a h
    by_cases ha : a < 128
    · rw [grp_small ha]
      exact grp_pos b
    · rw [grp_big ha, grp_big (show ¬ b < 128 by omega)]
      have := ih (b / 128) (by omega) (a / 128) (by omega)
      simp; omega

/-- l is ahead of m: they part at a byte that is less in l -/
def Lex (l m : List UInt8) : Prop := ∃ p x y r r', l = p ++ x :: r ∧ m = p ++ y :: r' ∧ x < y
theorem Lex.lt {l m : List UInt8} (h : Lex l m) : l < m := by
  obtain ⟨p, x, y, r, r', rfl, rfl, h⟩ := h
  induction p with
  | nil => exact List.Lex.rel h
  | cons c p ih => exact List.Lex.cons ih
theorem dec_lex : ∀ (b a : Nat), a < b → (decDigits a).length = (decDigits b).length → Lex (decDigits a) (decDigits b) := by
  intro b
  induction b using Nat.strongRecOn with
  | _ b ih =>
    intro a h hl
    have lt8 : ∀ i j : Nat, i < j → j < 10 → UInt8.ofNat (48 + i) < UInt8.ofNat (48 + j) := fun i j h1 h2 => by
      rw [UInt8.lt_iff_toNat_lt, UInt8.toNat_ofNat', UInt8.toNat_ofNat']
      omega
    by_cases hb : b < 10
    · rw [dec_small (by omega), dec_small hb]
      exact ⟨[], _, _, [], [], rfl, rfl, lt8 a b h hb⟩
    · by_cases ha : a < 10
      · rw [dec_small ha, dec_big hb] at hl
        have := dec_pos (b / 10)
        simp only [List.length_append, List.length_cons, List.length_nil] at hl; omega
      · rw [dec_big ha, dec_big hb] at hl ⊢
        by_cases he : a / 10 = b / 10
        · rw [he]
          exact ⟨_, _, _, [], [], rfl, rfl, lt8 _ _ (by omega) (by omega)⟩
        · obtain ⟨p, x, y, r, r', e1, e2, hxy⟩ := ih (b / 10) (by omega) (a / 10) (by omega) (by simpa using hl)
          exact ⟨p, x, y, r ++ [_], r' ++ [_], by rw [e1]; simp; rfl, by rw [e2]; simp; rfl, hxy⟩
end Go.Proofs.YtkemaaohmfdhbaaDoor
