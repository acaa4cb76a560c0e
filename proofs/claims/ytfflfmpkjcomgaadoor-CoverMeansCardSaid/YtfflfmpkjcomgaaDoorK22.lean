import Derived.Test.YtfflfmpkjcomgaaDoorK21
namespace Go.Proofs.YtfflfmpkjcomgaaDoor
open Go.RowKit
set_option maxRecDepth 100000
theorem litsN_app (a b : List Fm) : litsN (a ++ b) = litsN a + litsN b := by
  unfold litsN
  rw [List.filter_append, List.length_append]
theorem litsN_cons (f : Fm) (b : List Fm) : litsN (f :: b) = (if f.k = 2 then 1 else 0) + litsN b := by
  unfold litsN
  by_cases h : f.k = 2
  · simp [h]; omega
  · simp [h]
theorem litsN_rest (R : List Fm) : litsN (restF R) ≤ litsN R := by
  cases R with
  | nil => exact Nat.le_refl _
  | cons f l =>
    show litsN (if f.k = 1 then [] else f :: l) ≤ _
    split
    · exact Nat.zero_le _
    · exact Nat.le_refl _
theorem litsN_all (ls : List Li) (R : List Fm) : litsN (allOfF ls R) ≤ ls.length + litsN R := by
  have h := litsN_rest R
  have h0 : litsN (if 1 < kidsN ls R then [(⟨3, 0, kidsN ls R⟩ : Fm)] else []) = 0 := by split <;> rfl
  unfold allOfF
  rw [litsN_app, litsN_app, h0, litsN_forms]
  omega
/-- a factor has no more literals than the rows -/
theorem factF_less : ∀ (d : Nat) (rows : List Row), litsN (factF d rows) ≤ mz rows
  | 0, _ => Nat.zero_le _
  | d + 1, rows => by
    unfold factF
    split
    · exact Nat.zero_le _
    rename_i hne
    have hpos := List.length_pos_iff.2 hne
    split
    · exact Nat.zero_le _
    split
    · rename_i hc
      have h1 := factF_less d (rows.map (divL (comL rows)))
      have h2 := mz_div (rows := rows) (comL rows) (comL_sorted rows) fun x hx => comL_ok hx
      have h3 := litsN_all (comL rows) (factF d (rows.map (divL (comL rows))))
      have h4 : (comL rows).length ≤ rows.length * (comL rows).length := Nat.le_mul_of_pos_left _ hpos
      omega
    split
    · rename_i hb
      obtain ⟨b1, b2, b3⟩ := best_ok hb
      generalize (bestF rows (cands (rows.headD []).length)).1 = x at *
      obtain ⟨m1, m2⟩ := mz_sel rows x b2
      have h1 := factF_less d ((selR x true rows).map fun r => r.set x.p 45)
      have h2 := factF_less d (selR x false rows)
      have h3 := litsN_all [x] (factF d ((selR x true rows).map fun r => r.set x.p 45))
      rw [litsN_cons, if_neg (by decide), litsN_app]
      simp only [List.length_cons, List.length_nil] at h3
      omega
    · have key : ∀ rows : List Row, litsN (rows.flatMap fun r => allOfF (litsAt 0 r) []) ≤ mz rows := fun rows => by
        induction rows with
        | nil => exact Nat.zero_le _
        | cons r rows ih =>
          have := litsN_all (litsAt 0 r) []
          rw [litsAt_cst] at this
          rw [List.flatMap_cons, litsN_app, mz_cons]
          have h0 : litsN [] = 0 := rfl
          omega
      have := key rows
      rw [litsN_cons, if_neg (by show ¬ (4 : Int) = 2; decide)]
      omega
theorem once_in : ∀ (m l : List Row), (∀ r ∈ m, r ∈ l) → m.foldl (fun l r => if r ∈ l then l else l ++ [r]) l = l
  | [], _, _ => rfl
  | r :: m, l, h => by
    rw [List.foldl_cons, if_pos (h r List.mem_cons_self)]
    exact once_in m l fun x hx => h x (List.mem_cons_of_mem _ hx)
theorem once_mem : ∀ (m l : List Row), (∀ r ∈ l, r ∈ m.foldl (fun l r => if r ∈ l then l else l ++ [r]) l) ∧ ∀ r ∈ m, r ∈ m.foldl (fun l r => if r ∈ l then l else l ++ [r]) l
  | [], _ => ⟨fun _ h => h, fun _ h => absurd h List.not_mem_nil⟩
  | x :: m, l => by
    rw [List.foldl_cons]
    obtain ⟨h1, h2⟩ := once_mem m (if x ∈ l then l else l ++ [x])
    have hl : ∀ r ∈ l, r ∈ (if x ∈ l then l else l ++ [x]) := fun r hr => by
      by_cases hx : x ∈ l
      · rw [if_pos hx]; exact hr
      · rw [if_neg hx]; exact List.mem_append_left _ hr
    have hx : x ∈ (if x ∈ l then l else l ++ [x]) := by
      by_cases hx : x ∈ l
      · rw [if_pos hx]; exact hx
      · rw [if_neg hx]; exact List.mem_append_right _ (List.mem_singleton.2 rfl)
    refine ⟨fun r hr => h1 r (hl r hr), fun r hr => ?_⟩
    rcases List.mem_cons.1 hr with rfl | hr
    · exact h1 _ hx
    · exact h2 r hr
/-- rows that stand there twice do not matter -/
theorem once_twice (rows : List Row) : onceF (rows ++ rows) = onceF rows := by
  unfold onceF
  rw [List.foldl_append]
  exact once_in _ _ (once_mem rows []).2
end Go.Proofs.YtfflfmpkjcomgaaDoor
