import Derived.Test.YtfflfmpkjcomgaaDoorK15
namespace Go.Proofs.YtfflfmpkjcomgaaDoor
open Go.RowKit
set_option maxRecDepth 100000
set_option linter.unusedSimpArgs false
variable (Hy : World → Prop)
attribute [local irreducible] runM runD cwp seqQ blkQ lpQ retQ asQ bdQ bdY retP endR preD retD
theorem litsAt_mem : ∀ (r : Row) (i : Nat) (x : Li), x ∈ litsAt i r → i ≤ x.p ∧ r[x.p - i]? = some x.c ∧ x.c ≠ 45
  | [], _, _, h => by cases h
  | c :: r, i, x, h => by
    simp only [litsAt] at h
    have go : x ∈ litsAt (i + 1) r → i ≤ x.p ∧ (c :: r)[x.p - i]? = some x.c ∧ x.c ≠ 45 := fun h => by
      obtain ⟨h1, h2, h3⟩ := litsAt_mem r (i + 1) x h
      refine ⟨by omega, ?_, h3⟩
      rw [show x.p - i = (x.p - (i + 1)) + 1 by omega, List.getElem?_cons_succ]
      exact h2
    split at h
    · exact go h
    · rename_i hc
      rcases List.mem_cons.1 h with rfl | h
      · refine ⟨Nat.le_refl _, ?_, hc⟩
        show (c :: r)[i - i]? = some c
        rw [Nat.sub_self]
        rfl
      · exact go h
theorem litsAt_sorted : ∀ (r : Row) (i : Nat), (litsAt i r).Pairwise fun x y => x.p < y.p
  | [], _ => List.Pairwise.nil
  | c :: r, i => by
    have ih := litsAt_sorted r (i + 1)
    simp only [litsAt]
    split
    · exact ih
    · refine List.Pairwise.cons (fun y hy => ?_) ih
      have := (litsAt_mem r (i + 1) y hy).1
      show i < y.p
      omega
/-- how many signs a row has -/
def cst (r : Row) : Nat := r.countP fun c => c != 45
theorem litsAt_cst : ∀ (r : Row) (i : Nat), (litsAt i r).length = cst r
  | [], _ => rfl
  | c :: r, i => by
    have ih := litsAt_cst r (i + 1)
    unfold cst at ih ⊢
    simp only [litsAt]
    rw [List.countP_cons]
    by_cases h : c = 45
    · rw [if_pos h]; simp [h, ih]
    · rw [if_neg h]; simp [h, ih]
theorem cst_set {r : Row} {k : Nat} {c : UInt8} (h : r[k]? = some c) (hc : c ≠ 45) : cst (r.set k 45) + 1 = cst r := by
  induction r generalizing k with
  | nil => cases h
  | cons a r ih =>
    unfold cst at ih ⊢
    cases k with
    | zero =>
      have : a = c := by simpa using h
      subst this
      simp [List.countP_cons, hc]
    | succ k =>
      have := ih (k := k) (by simpa using h)
      rw [List.set_cons_succ, List.countP_cons, List.countP_cons]
      omega
theorem divL_cst : ∀ (ls : List Li) (r : Row), ls.Pairwise (fun x y => x.p < y.p) → (∀ x ∈ ls, r[x.p]? = some x.c ∧ x.c ≠ 45) → cst (divL ls r) + ls.length = cst r
  | [], _, _, _ => rfl
  | x :: ls, r, hp, hx => by
    obtain ⟨h1, h2⟩ := List.pairwise_cons.1 hp
    obtain ⟨h3, h4⟩ := hx x List.mem_cons_self
    have ih := divL_cst ls (r.set x.p 45) h2 fun y hy => by
      have h5 := h1 y hy
      rw [List.getElem?_set_ne (by omega)]
      exact hx y (List.mem_cons_of_mem _ hy)
    have := cst_set h3 h4
    rw [List.length_cons]
    show cst (divL ls (r.set x.p 45)) + _ = _
    omega
def mz (rows : List Row) : Nat := (rows.map cst).sum
theorem mz_cons (r : Row) (rows : List Row) : mz (r :: rows) = cst r + mz rows := by simp [mz]
theorem comL_ok {rows : List Row} {x : Li} (h : x ∈ comL rows) : x.c ≠ 45 ∧ ∀ r ∈ rows, r[x.p]? = some x.c := by
  obtain ⟨h1, h2⟩ := List.mem_filter.1 h
  refine ⟨(litsAt_mem _ _ _ h1).2.2, fun r hr => ?_⟩
  have := List.all_eq_true.1 h2 r hr
  exact of_decide_eq_true this
theorem comL_sorted (rows : List Row) : (comL rows).Pairwise fun x y => x.p < y.p := (litsAt_sorted _ _).filter _
theorem mz_div {rows : List Row} (ls : List Li) (hp : ls.Pairwise fun x y => x.p < y.p) (hx : ∀ x ∈ ls, x.c ≠ 45 ∧ ∀ r ∈ rows, r[x.p]? = some x.c) : mz (rows.map (divL ls)) + rows.length * ls.length = mz rows := by
  induction rows with
  | nil => simp [mz]
  | cons r rows ih =>
    have ih := ih fun x h => ⟨(hx x h).1, fun r hr => (hx x h).2 r (List.mem_cons_of_mem _ hr)⟩
    have := divL_cst ls r hp fun x h => ⟨(hx x h).2 r List.mem_cons_self, (hx x h).1⟩
    rw [List.map_cons, mz_cons, mz_cons, List.length_cons, Nat.add_mul, Nat.one_mul]
    omega
theorem mz_sel (rows : List Row) (x : Li) (hx : x.c ≠ 45) : mz ((selR x true rows).map fun r => r.set x.p 45) + (selR x true rows).length + mz (selR x false rows) = mz rows ∧ (selR x true rows).length + (selR x false rows).length = rows.length := by
  induction rows with
  | nil => exact ⟨rfl, rfl⟩
  | cons r rows ih =>
    obtain ⟨h1, h2⟩ := ih
    unfold selR at *
    cases hb : hadB x r with
    | true =>
      have h3 := cst_set (of_decide_eq_true hb) hx
      rw [List.filter_cons_of_pos (by rw [hb]; rfl), List.filter_cons_of_neg (by rw [hb]; decide), List.map_cons, mz_cons, mz_cons, List.length_cons, List.length_cons]
      omega
    | false =>
      rw [List.filter_cons_of_neg (by rw [hb]; decide), List.filter_cons_of_pos (by rw [hb]; rfl), mz_cons, mz_cons, List.length_cons, List.length_cons]
      omega
theorem selR_count (rows : List Row) (x : Li) : (selR x true rows).length = rows.countP (hadB x) := by
  unfold selR
  rw [List.countP_eq_length_filter]
  congr 2
  funext r
  cases hadB x r <;> rfl
theorem bestF_ok (rows : List Row) (l : List Li) : bestF rows l = (⟨0, 0⟩, 1) ∨ ((bestF rows l).1 ∈ l ∧ (bestF rows l).2 = rows.countP (hadB (bestF rows l).1)) := by
  have key : ∀ (m : List Li) (l : List Li) (a : Li × Nat), (a = (⟨0, 0⟩, 1) ∨ (a.1 ∈ l ∧ a.2 = rows.countP (hadB a.1))) → (m.foldl (stepB rows) a = (⟨0, 0⟩, 1) ∨ ((m.foldl (stepB rows) a).1 ∈ l ++ m ∧ (m.foldl (stepB rows) a).2 = rows.countP (hadB (m.foldl (stepB rows) a).1))) := fun m => by
    induction m with
    | nil => intro l a h; rw [List.append_nil]; exact h
    | cons x m ih =>
      intro l a h
      have := ih (l ++ [x]) (stepB rows a x) (by
        unfold stepB
        split
        · exact .inr ⟨by simp, rfl⟩
        · rcases h with h | ⟨h1, h2⟩
          · exact .inl h
          · exact .inr ⟨List.mem_append_left _ h1, h2⟩)
      rw [List.append_assoc] at this
      exact this
  exact key l [] _ (.inl rfl)
theorem cands_mem {n : Nat} {x : Li} (h : x ∈ cands n) : x.p < n ∧ x.c ≠ 45 := by
  obtain ⟨i, hi, hx⟩ := List.mem_flatMap.1 h
  have hi := List.mem_range.1 hi
  simp only [two, List.mem_cons, List.not_mem_nil, or_false] at hx
  rcases hx with rfl | rfl
  · exact ⟨hi, show (49 : UInt8) ≠ 45 by decide⟩
  · exact ⟨hi, show (48 : UInt8) ≠ 45 by decide⟩
/-- the factor of rows -/
def factF : Nat → List Row → List Fm
  | 0, _ => [⟨0, 0, 0⟩]
  | d + 1, rows =>
    if rows = [] then [⟨0, 0, 0⟩]
    else if rows.any isAllB = true then [⟨1, 0, 0⟩]
    else if comL rows ≠ [] then allOfF (comL rows) (factF d (rows.map (divL (comL rows))))
    else if 1 < (bestF rows (cands (rows.headD []).length)).2 then
      ⟨4, 0, 2⟩ :: (allOfF [(bestF rows (cands (rows.headD []).length)).1] (factF d ((selR (bestF rows (cands (rows.headD []).length)).1 true rows).map fun r => r.set (bestF rows (cands (rows.headD []).length)).1.p 45)) ++ factF d (selR (bestF rows (cands (rows.headD []).length)).1 false rows))
    else ⟨4, 0, rows.length⟩ :: rows.flatMap fun r => allOfF (litsAt 0 r) []
theorem allOfF_len (ls : List Li) (R : List Fm) : (allOfF ls R).length ≤ 1 + ls.length + R.length := by
  unfold allOfF
  have := restF_len R
  split <;> simp <;> omega
theorem allOfF_len0 (ls : List Li) : (allOfF ls []).length ≤ 1 + ls.length := by
  have := allOfF_len ls []
  simpa using this
theorem best_ok {rows : List Row} {n : Nat} (h : 1 < (bestF rows (cands n)).2) : (bestF rows (cands n)).1.p < n ∧ (bestF rows (cands n)).1.c ≠ 45 ∧ 2 ≤ (selR (bestF rows (cands n)).1 true rows).length := by
  rcases bestF_ok rows (cands n) with e | ⟨h1, h2⟩
  · rw [e] at h; exact absurd h (by decide)
  · obtain ⟨h3, h4⟩ := cands_mem h1
    exact ⟨h3, h4, by rw [selR_count, ← h2]; exact h⟩
theorem factF_len : ∀ (d : Nat) (rows : List Row), (factF d rows).length ≤ 2 * mz rows + 2 * rows.length + 1
  | 0, _ => by simp [factF]
  | d + 1, rows => by
    unfold factF
    split
    · simp
    rename_i hne
    have hpos := List.length_pos_iff.2 hne
    split
    · simp
    split
    · rename_i hc
      have hcp := List.length_pos_iff.2 hc
      have h1 := factF_len d (rows.map (divL (comL rows)))
      have h2 := mz_div (rows := rows) (comL rows) (comL_sorted rows) fun x hx => comL_ok hx
      have h3 := allOfF_len (comL rows) (factF d (rows.map (divL (comL rows))))
      rw [List.length_map] at h1
      have h4 : (comL rows).length ≤ rows.length * (comL rows).length := Nat.le_mul_of_pos_left _ hpos
      omega
    split
    · rename_i hb
      obtain ⟨b1, b2, b3⟩ := best_ok hb
      generalize (bestF rows (cands (rows.headD []).length)).1 = x at *
      obtain ⟨m1, m2⟩ := mz_sel rows x b2
      have h1 := factF_len d ((selR x true rows).map fun r => r.set x.p 45)
      have h2 := factF_len d (selR x false rows)
      have h3 := allOfF_len [x] (factF d ((selR x true rows).map fun r => r.set x.p 45))
      rw [List.length_map] at h1
      simp only [List.length_cons, List.length_append, List.length_nil] at h3 ⊢
      omega
    · have key : ∀ rows : List Row, (rows.flatMap fun r => allOfF (litsAt 0 r) []).length ≤ mz rows + rows.length := fun rows => by
        induction rows with
        | nil => simp
        | cons r rows ih =>
          have := allOfF_len0 (litsAt 0 r)
          rw [litsAt_cst] at this
          rw [List.flatMap_cons, List.length_append, mz_cons, List.length_cons]
          omega
      have := key rows
      rw [List.length_cons]
      omega
end Go.Proofs.YtfflfmpkjcomgaaDoor
