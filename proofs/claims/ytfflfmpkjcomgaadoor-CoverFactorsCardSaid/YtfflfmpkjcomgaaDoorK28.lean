import Derived.Test.YtfflfmpkjcomgaaDoorK27
namespace Go.Proofs.YtfflfmpkjcomgaaDoor
open Go.RowKit
set_option maxRecDepth 100000
/-- the sign that both have -/
def eqS (a b : UInt8) : UInt8 := if a = b then a else 45
/-- the sign where the other has none -/
def woS (a b : UInt8) : UInt8 := if b = 45 then a else 45
def comS (h : Row) (l : List Row) : Row := l.foldl (List.zipWith eqS) h
def woR (r b : Row) : Row := List.zipWith woS r b
def hasS (b s : Row) : Bool := (litsAt 0 b).all fun x => hadB x s
def sgl (n p : Nat) (c : UInt8) : Row := (List.replicate n 45).set p c
/-- are a row's signs 0, 1 and - -/
def okS (r : Row) : Prop := ∀ c ∈ r, c = 48 ∨ c = 49 ∨ c = 45
theorem litsAt_has : ∀ (r : Row) (i j : Nat) (c : UInt8), r[j]? = some c → c ≠ 45 → ⟨i + j, c⟩ ∈ litsAt i r
  | [], _, _, _, h, _ => by cases h
  | a :: r, i, 0, c, h, hc => by
    have : a = c := by simpa using h
    subst this
    simp only [litsAt]
    rw [if_neg hc]
    exact List.mem_cons_self
  | a :: r, i, j + 1, c, h, hc => by
    rw [List.getElem?_cons_succ] at h
    have ih := litsAt_has r (i + 1) j c h hc
    rw [show i + 1 + j = i + (j + 1) by omega] at ih
    simp only [litsAt]
    split
    · exact ih
    · exact List.mem_cons_of_mem _ ih
theorem lits_zip : ∀ (s r : Row) (i : Nat), s.length = r.length → litsAt i (List.zipWith eqS s r) = (litsAt i s).filter fun x => decide (r[x.p - i]? = some x.c)
  | [], _, _, _ => by simp [litsAt]
  | a :: s, [], _, h => by simp at h
  | a :: s, b :: r, i, h => by
    have ih := lits_zip s r (i + 1) (by simpa using h)
    have e : (litsAt (i + 1) s).filter (fun x => decide ((b :: r)[x.p - i]? = some x.c)) = (litsAt (i + 1) s).filter fun x => decide (r[x.p - (i + 1)]? = some x.c) := by
      refine List.filter_congr fun x hx => ?_
      have := (litsAt_mem s (i + 1) x hx).1
      rw [show x.p - i = (x.p - (i + 1)) + 1 by omega, List.getElem?_cons_succ]
    rw [List.zipWith_cons_cons]
    simp only [litsAt]
    rw [ih, ← e]
    by_cases ha : a = 45
    · have h1 : eqS a b = 45 := by unfold eqS; split <;> first | exact ha | rfl
      rw [if_pos ha, if_pos h1]
    · rw [if_neg ha]
      by_cases hb : a = b
      · subst hb
        have h1 : eqS a a = a := by unfold eqS; rw [if_pos rfl]
        rw [h1, if_neg ha, List.filter_cons_of_pos (by simp)]
      · have h1 : eqS a b = 45 := by unfold eqS; rw [if_neg hb]
        rw [h1, if_pos rfl, List.filter_cons_of_neg (by simp; exact fun e => hb e.symm)]
theorem comS_len : ∀ (l : List Row) (h : Row), (∀ r ∈ l, r.length = h.length) → (comS h l).length = h.length
  | [], _, _ => rfl
  | r :: l, h, hl => by
    have e : (List.zipWith eqS h r).length = h.length := by rw [List.length_zipWith, hl r List.mem_cons_self, Nat.min_self]
    have := comS_len l (List.zipWith eqS h r) fun x hx => by rw [e]; exact hl x (List.mem_cons_of_mem _ hx)
    rw [e] at this
    exact this
theorem lits_comS : ∀ (l : List Row) (h : Row), (∀ r ∈ l, r.length = h.length) → litsAt 0 (comS h l) = (litsAt 0 h).filter fun x => l.all (hadB x)
  | [], h, _ => (List.filter_eq_self.2 fun x _ => rfl).symm
  | r :: l, h, hl => by
    have e : (List.zipWith eqS h r).length = h.length := by rw [List.length_zipWith, hl r List.mem_cons_self, Nat.min_self]
    have := lits_comS l (List.zipWith eqS h r) fun x hx => by rw [e]; exact hl x (List.mem_cons_of_mem _ hx)
    rw [lits_zip h r 0 (hl r List.mem_cons_self).symm, List.filter_filter] at this
    refine this.trans (List.filter_congr fun x _ => ?_)
    rw [List.all_cons, Bool.and_comm]
    rfl
theorem lits_com (h : Row) (l : List Row) (hl : ∀ r ∈ l, r.length = h.length) : litsAt 0 (comS h l) = comL (h :: l) := by
  rw [lits_comS l h hl]
  show _ = (litsAt 0 h).filter (allHad (h :: l))
  refine List.filter_congr fun x hx => ?_
  have h1 := (litsAt_mem h 0 x hx).2.1
  have h2 : hadB x h = true := decide_eq_true h1
  unfold allHad
  rw [List.all_cons, h2, Bool.true_and]
theorem comS_ok : ∀ (l : List Row) (h : Row), okS h → okS (comS h l)
  | [], _, h => h
  | r :: l, h, hh => comS_ok l _ fun c hc => by
    obtain ⟨i, hi⟩ := List.getElem?_of_mem hc
    rw [List.getElem?_zipWith] at hi
    cases h1 : h[i]? with
    | none => rw [h1] at hi; cases hi
    | some a =>
      cases h2 : r[i]? with
      | none => rw [h1, h2] at hi; cases hi
      | some b =>
        rw [h1, h2] at hi
        have : eqS a b = c := Option.some.inj hi
        have ha := hh a (List.mem_of_getElem? h1)
        unfold eqS at this
        split at this
        · rw [← this]; exact ha
        · exact .inr (.inr this.symm)
theorem divL_get : ∀ (ls : List Li) (r : Row) (i : Nat), (divL ls r)[i]? = if (∃ x ∈ ls, x.p = i) then r[i]?.map (fun _ => 45) else r[i]?
  | [], r, i => by rw [if_neg (by simp)]; rfl
  | x :: ls, r, i => by
    show (divL ls (r.set x.p 45))[i]? = _
    rw [divL_get ls _ i, List.getElem?_set]
    by_cases hx : x.p = i
    · subst hx
      rw [if_pos rfl, if_pos (⟨x, List.mem_cons_self, rfl⟩ : ∃ y ∈ x :: ls, y.p = x.p)]
      by_cases hl : x.p < r.length
      · rw [if_pos hl, List.getElem?_eq_getElem hl]
        split <;> rfl
      · rw [if_neg hl, List.getElem?_eq_none (by omega : r.length ≤ x.p)]
        split <;> rfl
    · rw [if_neg hx]
      by_cases h : ∃ y ∈ ls, y.p = i
      · obtain ⟨y, hy, e⟩ := h
        rw [if_pos ⟨y, hy, e⟩, if_pos ⟨y, List.mem_cons_of_mem _ hy, e⟩]
      · rw [if_neg h, if_neg]
        rintro ⟨y, hy, e⟩
        rcases List.mem_cons.1 hy with rfl | hy
        · exact hx e
        · exact h ⟨y, hy, e⟩
theorem woR_div (r b : Row) (hl : b.length = r.length) : woR r b = divL (litsAt 0 b) r := by
  apply List.ext_getElem?
  intro i
  unfold woR
  rw [divL_get, List.getElem?_zipWith]
  by_cases hi : i < r.length
  · rw [List.getElem?_eq_getElem hi, List.getElem?_eq_getElem (by omega : i < b.length)]
    show some (woS r[i] b[i]) = _
    unfold woS
    by_cases hc : b[i] = 45
    · rw [if_pos hc, if_neg]
      rintro ⟨x, hx, rfl⟩
      obtain ⟨_, h2, h3⟩ := litsAt_mem b 0 x hx
      rw [Nat.sub_zero, List.getElem?_eq_getElem (by omega : x.p < b.length)] at h2
      exact h3 (by rw [← Option.some.inj h2]; exact hc)
    · rw [if_neg hc, if_pos]
      · rfl
      · have := litsAt_has b 0 i b[i] (List.getElem?_eq_getElem (by omega)) hc
        exact ⟨_, this, by show 0 + i = i; omega⟩
  · have e1 : r[i]? = none := List.getElem?_eq_none (by omega)
    rw [e1]
    have e2 : (if ∃ x ∈ litsAt 0 b, x.p = i then (none : Option UInt8).map (fun _ => (45 : UInt8)) else none) = none := by split <;> rfl
    rw [e2]
theorem lits_rep : ∀ (n i : Nat), litsAt i (List.replicate n 45) = []
  | 0, _ => rfl
  | n + 1, i => by
    rw [List.replicate_succ]
    simp only [litsAt, if_true]
    exact lits_rep n (i + 1)
theorem lits_set : ∀ (n i p : Nat) (c : UInt8), p < n → c ≠ 45 → litsAt i ((List.replicate n 45).set p c) = [⟨i + p, c⟩]
  | 0, _, _, _, h, _ => by omega
  | n + 1, i, 0, c, _, hc => by
    rw [List.replicate_succ, List.set_cons_zero]
    simp only [litsAt]
    rw [if_neg hc, lits_rep]
    rfl
  | n + 1, i, p + 1, c, h, hc => by
    rw [List.replicate_succ, List.set_cons_succ]
    simp only [litsAt, if_true]
    rw [lits_set n (i + 1) p c (by omega) hc, show i + 1 + p = i + (p + 1) by omega]
theorem lits_sgl {n p : Nat} {c : UInt8} (hp : p < n) (hc : c ≠ 45) : litsAt 0 (sgl n p c) = [⟨p, c⟩] := by
  unfold sgl
  rw [lits_set n 0 p c hp hc, Nat.zero_add]
theorem sgl_len (n p : Nat) (c : UInt8) : (sgl n p c).length = n := by unfold sgl; simp
theorem sgl_get {n p : Nat} {c : UInt8} {i : Nat} (hi : i < n) : (sgl n p c)[i]? = some (if i = p then c else 45) := by
  unfold sgl
  rw [List.getElem?_set]
  by_cases h : p = i
  · subst h
    simp [hi]
  · rw [if_neg h, if_neg (fun e => h e.symm)]
    simp [hi]
theorem sgl_ok {n p : Nat} {c : UInt8} (hc : c = 48 ∨ c = 49) : okS (sgl n p c) := fun a ha => by
  obtain ⟨i, hi⟩ := List.getElem?_of_mem ha
  have hl := (List.getElem?_eq_some_iff.1 hi).1
  rw [sgl_len] at hl
  rw [sgl_get hl] at hi
  have := Option.some.inj hi
  split at this
  · rw [← this]
    rcases hc with h | h
    · exact .inl h
    · exact .inr (.inl h)
  · exact .inr (.inr this.symm)
theorem has_sgl {n p : Nat} {c : UInt8} (hp : p < n) (hc : c ≠ 45) (s : Row) : hasS (sgl n p c) s = hadB ⟨p, c⟩ s := by
  unfold hasS
  rw [lits_sgl hp hc]
  simp
/-- the literal that most rows have, the first of them -/
def stepR (rows : List Row) (y x : Li) : Li := if rows.countP (hadB y) < rows.countP (hadB x) then x else y
def mostF (rows : List Row) (l : List Li) : Li := l.foldl (stepR rows) ⟨0, 49⟩
theorem mostF_add (rows : List Row) (l : List Li) (x : Li) : mostF rows (l ++ [x]) = stepR rows (mostF rows l) x := by
  unfold mostF
  rw [List.foldl_append]
  rfl
theorem most_best (rows : List Row) (l : List Li) (h0 : 2 ≤ rows.countP (hadB ⟨0, 49⟩) → ∃ m, l = ⟨0, 49⟩ :: m) : (2 ≤ rows.countP (hadB (mostF rows l)) → bestF rows l = (mostF rows l, rows.countP (hadB (mostF rows l)))) ∧ (rows.countP (hadB (mostF rows l)) < 2 → bestF rows l = (⟨0, 0⟩, 1)) := by
  have key : ∀ (m : List Li) (y : Li) (a : Li × Nat), ((2 ≤ rows.countP (hadB y) → a = (y, rows.countP (hadB y))) ∧ (rows.countP (hadB y) < 2 → a = (⟨0, 0⟩, 1))) → ((2 ≤ rows.countP (hadB (m.foldl (stepR rows) y)) → m.foldl (stepB rows) a = (m.foldl (stepR rows) y, rows.countP (hadB (m.foldl (stepR rows) y)))) ∧ (rows.countP (hadB (m.foldl (stepR rows) y)) < 2 → m.foldl (stepB rows) a = (⟨0, 0⟩, 1))) := fun m => by
    induction m with
    | nil => intro y a h; exact h
    | cons x m ih =>
      intro y a h
      rw [List.foldl_cons, List.foldl_cons]
      refine ih _ _ ?_
      unfold stepR stepB
      rcases Nat.lt_or_ge (rows.countP (hadB y)) 2 with h1 | h1
      · rw [h.2 h1]
        by_cases c : rows.countP (hadB y) < rows.countP (hadB x)
        · rw [if_pos c]
          by_cases c2 : 1 < rows.countP (hadB x)
          · rw [if_pos c2]
            exact ⟨fun _ => rfl, fun h => by omega⟩
          · rw [if_neg c2]
            exact ⟨fun h => by omega, fun _ => rfl⟩
        · rw [if_neg c, if_neg (by show ¬ 1 < _; omega)]
          exact ⟨fun h => by omega, fun _ => rfl⟩
      · rw [h.1 h1]
        by_cases c : rows.countP (hadB y) < rows.countP (hadB x)
        · rw [if_pos c, if_pos c]
          exact ⟨fun _ => rfl, fun h => by omega⟩
        · rw [if_neg c, if_neg c]
          exact ⟨fun _ => rfl, fun h => by omega⟩
  rcases Nat.lt_or_ge (rows.countP (hadB ⟨0, 49⟩)) 2 with h1 | h1
  · exact key l ⟨0, 49⟩ (⟨0, 0⟩, 1) ⟨fun h => by omega, fun _ => rfl⟩
  · obtain ⟨m, rfl⟩ := h0 h1
    have hk := key m ⟨0, 49⟩ (⟨0, 49⟩, rows.countP (hadB ⟨0, 49⟩)) ⟨fun _ => rfl, fun h => by omega⟩
    have e1 : mostF rows (⟨0, 49⟩ :: m) = m.foldl (stepR rows) ⟨0, 49⟩ := by
      unfold mostF
      rw [List.foldl_cons]
      congr 1
      unfold stepR
      split <;> rfl
    have e2 : bestF rows (⟨0, 49⟩ :: m) = m.foldl (stepB rows) (⟨0, 49⟩, rows.countP (hadB ⟨0, 49⟩)) := by
      unfold bestF
      rw [List.foldl_cons]
      congr 1
      unfold stepB
      rw [if_pos (by show 1 < _; omega)]
    rw [e1, e2]
    exact hk
theorem cands_head (n : Nat) (hn : 0 < n) : ∃ m, cands n = ⟨0, 49⟩ :: m := by
  obtain ⟨k, rfl⟩ : ∃ k, n = k + 1 := ⟨n - 1, by omega⟩
  unfold cands
  rw [List.range_succ_eq_map, List.flatMap_cons]
  exact ⟨_, rfl⟩
theorem mostF_mem (rows : List Row) (l : List Li) : mostF rows l = ⟨0, 49⟩ ∨ mostF rows l ∈ l := by
  have key : ∀ (m : List Li) (y : Li), m.foldl (stepR rows) y = y ∨ m.foldl (stepR rows) y ∈ m := fun m => by
    induction m with
    | nil => exact fun y => .inl rfl
    | cons x m ih =>
      intro y
      rw [List.foldl_cons]
      rcases ih (stepR rows y x) with h | h
      · rw [h]
        unfold stepR
        split
        · exact .inr List.mem_cons_self
        · exact .inl rfl
      · exact .inr (List.mem_cons_of_mem _ h)
  exact key l _
end Go.Proofs.YtfflfmpkjcomgaaDoor
