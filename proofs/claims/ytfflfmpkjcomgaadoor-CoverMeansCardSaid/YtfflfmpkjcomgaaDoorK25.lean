import Derived.Test.YtfflfmpkjcomgaaDoorK24
namespace Go.Proofs.YtfflfmpkjcomgaaDoor
open Go.RowKit
set_option maxRecDepth 100000
set_option linter.unusedSimpArgs false
variable (Hy : World → Prop)
attribute [local irreducible] runM runD cwp seqQ blkQ lpQ retQ asQ bdQ bdY retP endR preD retD
theorem badA_ok {rows : List Row} {n : Int} (h : badA rows n = false) : (0 ≤ n ∧ n ≤ 8 ∧ rows.length ≤ 128) ∧ ∀ r ∈ rows, (r.length : Int) = n := by
  unfold badA at h
  rw [Bool.or_eq_false_iff] at h
  obtain ⟨h1, h2⟩ := h
  have h1 := of_decide_eq_false h1
  rw [Bool.not_eq_false', List.all_eq_true] at h2
  refine ⟨by omega, fun r hr => ?_⟩
  have := h2 r hr
  unfold okRow at this
  rw [Bool.and_eq_true] at this
  exact of_decide_eq_true this.1
theorem badA_twice {rows : List Row} {n : Int} (h : badA rows n = false) (hl : rows.length ≤ 40) : badA (rows ++ rows) n = false := by
  obtain ⟨h1, _⟩ := badA_ok h
  unfold badA at h ⊢
  rw [Bool.or_eq_false_iff] at h ⊢
  refine ⟨decide_eq_false (by rw [List.length_append]; omega), ?_⟩
  rw [List.all_append]
  have := h.2
  rw [Bool.not_eq_false'] at this
  rw [this]
  rfl
theorem mz_once (rows : List Row) : mz (onceF rows) ≤ mz rows := by
  have key : ∀ (m l : List Row), mz (m.foldl (fun l r => if r ∈ l then l else l ++ [r]) l) ≤ mz l + mz m := fun m => by
    induction m with
    | nil => intro l; exact Nat.le_add_right _ _
    | cons x m ih =>
      intro l
      rw [List.foldl_cons, mz_cons]
      have := ih (if x ∈ l then l else l ++ [x])
      have h2 : mz (if x ∈ l then l else l ++ [x]) ≤ mz l + cst x := by
        by_cases hx : x ∈ l
        · rw [if_pos hx]; omega
        · rw [if_neg hx]; unfold mz; rw [List.map_append, List.sum_append]; simp
      omega
  have := key rows []
  have h0 : mz [] = 0 := rfl
  unfold onceF
  omega
end Go.Proofs.YtfflfmpkjcomgaaDoor
