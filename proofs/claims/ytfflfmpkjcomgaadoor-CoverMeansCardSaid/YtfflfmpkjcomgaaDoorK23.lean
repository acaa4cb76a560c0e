import Derived.Test.YtfflfmpkjcomgaaDoorK22
namespace Go.Proofs.YtfflfmpkjcomgaaDoor
open Go.RowKit
set_option maxRecDepth 100000
theorem kidsF_add (step : List Fm → Option (List Fm)) : ∀ (a b : Nat) (l : List Fm), kidsF step (a + b) l = (kidsF step a l).bind (kidsF step b)
  | 0, b, l => by rw [Nat.zero_add]; rfl
  | a + 1, b, l => by
    rw [show a + 1 + b = (a + b) + 1 by omega]
    show (step l).bind (kidsF step (a + b)) = ((step l).bind (kidsF step a)).bind (kidsF step b)
    cases step l with
    | none => rfl
    | some m => exact kidsF_add step a b m
/-- nodes that are a form, whatever stands behind -/
def IsF (n : Int) (R : List Fm) : Prop := ∀ (F : Nat) (rest : List Fm), R.length ≤ F → formF n F (R ++ rest) = some rest
theorem formL_is {n : Nat} {x : Li} (hx : x.p < n) : IsF n [formL x] := fun F rest hF => by
  obtain ⟨d, rfl⟩ : ∃ d, F = d + 1 := ⟨F - 1, by simp at hF; omega⟩
  have hp : plainB n (formL x) = true := by
    unfold plainB formL
    simp only [if_true]
    refine decide_eq_true ⟨?_, ?_, trivial⟩
    · split <;> omega
    · split <;> omega
  show (if plainB n (formL x) = true then kidsF (formF n d) (formL x).kids.toNat rest else none) = some rest
  rw [if_pos hp]
  rfl
theorem lits_is {n F : Nat} (hF : 1 ≤ F) : ∀ (ls : List Li) (rest : List Fm), (∀ x ∈ ls, x.p < n) → kidsF (formF n F) ls.length (ls.map formL ++ rest) = some rest
  | [], _, _ => rfl
  | x :: ls, rest, h => by
    show (formF n F (formL x :: (ls.map formL ++ rest))).bind (kidsF (formF n F) ls.length) = some rest
    rw [show formF n F (formL x :: (ls.map formL ++ rest)) = some (ls.map formL ++ rest) from formL_is (h x List.mem_cons_self) F _ (by simpa using hF)]
    exact lits_is hF ls rest fun y hy => h y (List.mem_cons_of_mem _ hy)
theorem restF_or (R : List Fm) : restF R = [] ∨ restF R = R := by
  cases R with
  | nil => exact .inl rfl
  | cons f l =>
    show (if f.k = 1 then [] else f :: l) = [] ∨ (if f.k = 1 then [] else f :: l) = f :: l
    by_cases h : f.k = 1
    · rw [if_pos h]; exact .inl rfl
    · rw [if_neg h]; exact .inr rfl
theorem allOf_is {n : Nat} {ls : List Li} {R : List Fm} (hls : ∀ x ∈ ls, x.p < n) (hne : ls ≠ []) (hR : IsF n R) : IsF n (allOfF ls R) := fun F rest hF => by
  have hpos := List.length_pos_iff.2 hne
  unfold allOfF at hF ⊢
  by_cases hK : 1 < kidsN ls R
  · rw [if_pos hK] at hF ⊢
    obtain ⟨d, rfl⟩ : ∃ d, F = d + 1 := ⟨F - 1, by simp at hF; omega⟩
    have hp : plainB n ⟨3, 0, kidsN ls R⟩ = true := by
      unfold plainB
      simp
      omega
    simp only [List.length_append, List.length_cons, List.length_nil, List.length_map] at hF
    show (if plainB n ⟨3, 0, kidsN ls R⟩ = true then kidsF (formF n d) ((kidsN ls R : Nat) : Int).toNat (ls.map formL ++ restF R ++ rest) else none) = some rest
    rw [if_pos hp, Int.toNat_natCast, List.append_assoc]
    rcases restF_or R with h | h
    · rw [h, List.nil_append, kidsN, if_pos h, Nat.add_zero]
      exact lits_is (by omega) ls rest hls
    · by_cases h0 : restF R = []
      · rw [h0, List.nil_append, kidsN, if_pos h0, Nat.add_zero]
        exact lits_is (by omega) ls rest hls
      · rw [h] at hF ⊢
        rw [kidsN, if_neg h0, kidsF_add, lits_is (by omega) ls (R ++ rest) hls, Option.bind_some]
        show (formF n d (R ++ rest)).bind (kidsF (formF n d) 0) = some rest
        rw [hR d rest (by omega)]
        rfl
  · rw [if_neg hK] at hF ⊢
    have hr : restF R = [] := by
      by_cases h : restF R = []
      · exact h
      · exfalso
        rw [kidsN, if_neg h] at hK
        omega
    have hl : ls.length = 1 := by
      rw [kidsN, if_pos hr] at hK
      omega
    obtain ⟨x, rfl⟩ := List.length_eq_one_iff.1 hl
    rw [hr] at hF ⊢
    exact formL_is (hls x List.mem_cons_self) F rest (by simpa using hF)
theorem allOf_nil {n : Nat} {ls : List Li} (hls : ∀ x ∈ ls, x.p < n) (hne : ls ≠ []) : IsF n (allOfF ls []) := by
  have e : allOfF ls [] = allOfF ls [⟨1, 0, 0⟩] := rfl
  rw [e]
  exact allOf_is hls hne (fun F rest hF => by
    obtain ⟨d, rfl⟩ : ∃ d, F = d + 1 := ⟨F - 1, by simp at hF; omega⟩
    have hp : plainB n ⟨1, 0, 0⟩ = true := by simp [plainB]
    show (if plainB n ⟨1, 0, 0⟩ = true then kidsF (formF n d) (0 : Int).toNat rest else none) = some rest
    rw [if_pos hp]
    rfl)
theorem node_is {n : Int} {k : Int} (hk : k = 0 ∨ k = 1) : IsF n [⟨k, 0, 0⟩] := fun F rest hF => by
  obtain ⟨d, rfl⟩ : ∃ d, F = d + 1 := ⟨F - 1, by simp at hF; omega⟩
  have hp : plainB n ⟨k, 0, 0⟩ = true := by
    unfold plainB
    rcases hk with rfl | rfl <;> simp
  show (if plainB n ⟨k, 0, 0⟩ = true then kidsF (formF n d) (0 : Int).toNat rest else none) = some rest
  rw [if_pos hp]
  rfl
theorem flat_is {n F : Nat} : ∀ (rows : List Row) (rest : List Fm), (∀ r ∈ rows, r.length = n ∧ litsAt 0 r ≠ []) → (rows.flatMap fun r => allOfF (litsAt 0 r) []).length ≤ F → kidsF (formF n F) rows.length ((rows.flatMap fun r => allOfF (litsAt 0 r) []) ++ rest) = some rest
  | [], _, _, _ => rfl
  | r :: rows, rest, h, hF => by
    rw [List.flatMap_cons, List.length_append] at hF
    obtain ⟨h1, h2⟩ := h r List.mem_cons_self
    have ha : IsF n (allOfF (litsAt 0 r) []) := allOf_nil (fun x hx => by
      obtain ⟨_, h3, _⟩ := litsAt_mem r 0 x hx
      have := (List.getElem?_eq_some_iff.1 h3).1
      omega) h2
    rw [List.flatMap_cons, List.append_assoc]
    show (formF n F (allOfF (litsAt 0 r) [] ++ ((rows.flatMap fun r => allOfF (litsAt 0 r) []) ++ rest))).bind (kidsF (formF n F) rows.length) = some rest
    rw [ha F _ (by omega), Option.bind_some]
    exact flat_is rows rest (fun y hy => h y (List.mem_cons_of_mem _ hy)) (by omega)
/-- a factor is a form -/
theorem factF_is (n : Nat) : ∀ (d : Nat) (rows : List Row), mz rows + rows.length ≤ d → (∀ r ∈ rows, r.length = n) → IsF n (factF d rows)
  | 0, _, _, _ => node_is (.inl rfl)
  | d + 1, rows, hd, hn => by
    unfold factF
    split
    · exact node_is (.inl rfl)
    rename_i hne
    have hpos := List.length_pos_iff.2 hne
    obtain ⟨r0, rs, hrows⟩ := List.exists_cons_of_ne_nil hne
    have hr0 : (rows.headD []).length = n := by
      rw [hrows]
      exact hn r0 (by rw [hrows]; exact List.mem_cons_self)
    split
    · exact node_is (.inr rfl)
    rename_i hany
    split
    · rename_i hc
      have h2 := mz_div (rows := rows) (comL rows) (comL_sorted rows) fun x hx => comL_ok hx
      have hcp := List.length_pos_iff.2 hc
      have h4 : (comL rows).length ≤ rows.length * (comL rows).length := Nat.le_mul_of_pos_left _ hpos
      refine allOf_is (fun x hx => ?_) hc (factF_is n d _ (by rw [List.length_map]; omega) fun r hr => ?_)
      · have h1 := (comL_ok hx).2 r0 (by rw [hrows]; exact List.mem_cons_self)
        have h3 := (List.getElem?_eq_some_iff.1 h1).1
        have := hn r0 (by rw [hrows]; exact List.mem_cons_self)
        omega
      · obtain ⟨r1, h1, rfl⟩ := List.mem_map.1 hr
        rw [divL_len]
        exact hn r1 h1
    rename_i hcn
    rw [hr0]
    split
    · rename_i hb
      obtain ⟨b1, b2, b3⟩ := best_ok hb
      generalize (bestF rows (cands n)).1 = x at *
      obtain ⟨m1, m2⟩ := mz_sel rows x b2
      have f1 := factF_is n d ((selR x true rows).map fun r => r.set x.p 45) (by rw [List.length_map]; omega) fun r hr => by
        obtain ⟨r1, h1, rfl⟩ := List.mem_map.1 hr
        rw [List.length_set]
        exact hn r1 (List.mem_filter.1 h1).1
      have f2 := factF_is n d (selR x false rows) (by omega) fun r hr => hn r (List.mem_filter.1 hr).1
      have fa := allOf_is (ls := [x]) (fun y hy => by rw [List.mem_singleton.1 hy]; exact b1) (by simp) f1
      intro F rest hF
      obtain ⟨e, rfl⟩ : ∃ e, F = e + 1 := ⟨F - 1, by simp at hF; omega⟩
      rw [List.length_cons, List.length_append] at hF
      generalize allOfF [x] (factF d ((selR x true rows).map fun r => r.set x.p 45)) = A at *
      generalize factF d (selR x false rows) = B at *
      have hp : plainB n ⟨4, 0, 2⟩ = true := by simp [plainB]
      show (if plainB n ⟨4, 0, 2⟩ = true then kidsF (formF n e) 2 (A ++ B ++ rest) else none) = some rest
      rw [if_pos hp, List.append_assoc]
      show (formF n e (A ++ (B ++ rest))).bind (fun l => (formF n e l).bind (kidsF (formF n e) 0)) = some rest
      rw [fa e _ (by omega), Option.bind_some, f2 e _ (by omega)]
      rfl
    · have hla : ∀ r ∈ rows, r.length = n ∧ litsAt 0 r ≠ [] := fun r hr => ⟨hn r hr, fun e => by
        have : isAllB r = true := (isAll_iff r).2 (by rw [← litsAt_cst r 0, e]; rfl)
        exact hany (List.any_eq_true.2 ⟨r, hr, this⟩)⟩
      have hm2 : 2 ≤ rows.length := by
        rcases Nat.lt_or_ge rows.length 2 with h | h
        · exfalso
          have : rows.length = 1 := by omega
          obtain ⟨r, e⟩ := List.length_eq_one_iff.1 this
          have h5 := (hla r (by rw [e]; exact List.mem_singleton.2 rfl)).2
          rw [e, one_com] at hcn
          exact hcn h5
        · exact h
      intro F rest hF
      obtain ⟨e, rfl⟩ : ∃ e, F = e + 1 := ⟨F - 1, by simp at hF; omega⟩
      rw [List.length_cons] at hF
      have hp : plainB n ⟨4, 0, rows.length⟩ = true := by simp [plainB]; omega
      show (if plainB n ⟨4, 0, rows.length⟩ = true then kidsF (formF n e) ((rows.length : Nat) : Int).toNat ((rows.flatMap fun r => allOfF (litsAt 0 r) []) ++ rest) else none) = some rest
      rw [if_pos hp, Int.toNat_natCast]
      exact flat_is rows rest hla (by omega)
end Go.Proofs.YtfflfmpkjcomgaaDoor
