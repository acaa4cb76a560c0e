import Derived.Test.YtfflfmpkjcomgaaDoorK25
namespace Go.Proofs.YtfflfmpkjcomgaaDoor
open Go.RowKit
set_option maxRecDepth 100000
/-- a node whose numbers are small -/
def Mo (M : Int) (f : Fm) : Prop := (0 ≤ f.k ∧ f.k ≤ 4) ∧ (0 ≤ f.lit ∧ f.lit ≤ M) ∧ 0 ≤ f.kids ∧ f.kids ≤ M
theorem formL_in {M : Nat} {x : Li} (hx : 2 * x.p + 1 ≤ M) : Mo M (formL x) := by
  unfold Mo formL
  refine ⟨⟨by simp, by simp⟩, ⟨?_, ?_⟩, Int.le_refl _, by simp⟩
  · simp only; split <;> omega
  · simp only; split <;> omega
theorem allOf_in {M : Nat} {ls : List Li} {R : List Fm} (hls : ∀ x ∈ ls, 2 * x.p + 1 ≤ M) (hl : ls.length + 1 ≤ M) (hR : ∀ f ∈ R, Mo M f) : ∀ f ∈ allOfF ls R, Mo M f := fun f hf => by
  unfold allOfF at hf
  rcases List.mem_append.1 hf with h | h
  · by_cases hK : 1 < kidsN ls R
    · rw [if_pos hK, List.mem_singleton] at h
      subst h
      have : kidsN ls R ≤ ls.length + 1 := by unfold kidsN; split <;> omega
      exact ⟨⟨by simp, by simp⟩, ⟨Int.le_refl _, by simp⟩, by simp, by simp; omega⟩
    · rw [if_neg hK] at h
      cases h
  rcases List.mem_append.1 h with h | h
  · obtain ⟨x, hx, rfl⟩ := List.mem_map.1 h
    exact formL_in (hls x hx)
  · rcases restF_or R with e | e
    · rw [e] at h; cases h
    · rw [e] at h; exact hR f h
theorem node_in {M : Nat} {k : Int} (hk : 0 ≤ k ∧ k ≤ 4) : ∀ f ∈ [(⟨k, 0, 0⟩ : Fm)], Mo M f := fun f hf => by
  rw [List.mem_singleton] at hf
  subst hf
  exact ⟨hk, ⟨Int.le_refl _, by simp⟩, Int.le_refl _, by simp⟩
theorem lits_in {M n : Nat} (hM : 2 * n + 2 ≤ M) {r : Row} (hr : r.length = n) : (∀ x ∈ litsAt 0 r, 2 * x.p + 1 ≤ M) ∧ (litsAt 0 r).length + 1 ≤ M := by
  refine ⟨fun x hx => ?_, ?_⟩
  · obtain ⟨_, h3, _⟩ := litsAt_mem r 0 x hx
    have := (List.getElem?_eq_some_iff.1 h3).1
    omega
  · have := litsAt_len r 0
    omega
/-- a factor's numbers are small -/
theorem factF_in {M n : Nat} (hM : 2 * n + 2 ≤ M) : ∀ (d : Nat) (rows : List Row), rows.length ≤ M → (∀ r ∈ rows, r.length = n) → ∀ f ∈ factF d rows, Mo M f
  | 0, _, _, _ => node_in (by decide)
  | d + 1, rows, hl, hn => by
    unfold factF
    split
    · exact node_in (by decide)
    rename_i hne
    have hpos := List.length_pos_iff.2 hne
    obtain ⟨r0, rs, hrows⟩ := List.exists_cons_of_ne_nil hne
    have hm0 : r0 ∈ rows := by rw [hrows]; exact List.mem_cons_self
    have hr0 : (rows.headD []).length = n := by
      rw [hrows]
      exact hn r0 hm0
    split
    · exact node_in (by decide)
    split
    · obtain ⟨q1, q2⟩ := lits_in hM hr0
      refine allOf_in (fun x hx => q1 x (List.mem_filter.1 hx).1) ?_ (factF_in hM d _ (by rw [List.length_map]; exact hl) fun r hr => ?_)
      · have := List.length_filter_le (allHad rows) (litsAt 0 (rows.headD []))
        unfold comL
        omega
      · obtain ⟨r1, h1, rfl⟩ := List.mem_map.1 hr
        rw [divL_len]
        exact hn r1 h1
    rw [hr0]
    split
    · rename_i hb
      obtain ⟨b1, b2, b3⟩ := best_ok hb
      generalize (bestF rows (cands n)).1 = x at *
      obtain ⟨m1, m2⟩ := mz_sel rows x b2
      have f1 := factF_in hM d ((selR x true rows).map fun r => r.set x.p 45) (by rw [List.length_map]; omega) fun r hr => by
        obtain ⟨r1, h1, rfl⟩ := List.mem_map.1 hr
        rw [List.length_set]
        exact hn r1 (List.mem_filter.1 h1).1
      have f2 := factF_in hM d (selR x false rows) (by omega) fun r hr => hn r (List.mem_filter.1 hr).1
      have fa := allOf_in (M := M) (ls := [x]) (fun y hy => by rw [List.mem_singleton.1 hy]; omega) (by simp; omega) f1
      intro f hf
      rcases List.mem_cons.1 hf with rfl | hf
      · exact ⟨⟨by simp, by simp⟩, ⟨Int.le_refl _, by simp⟩, by simp, by simp; omega⟩
      rcases List.mem_append.1 hf with h | h
      · exact fa f h
      · exact f2 f h
    · intro f hf
      rcases List.mem_cons.1 hf with rfl | hf
      · exact ⟨⟨by simp, by simp⟩, ⟨Int.le_refl _, by simp⟩, by simp, by simp; omega⟩
      obtain ⟨r, hr, hf⟩ := List.mem_flatMap.1 hf
      obtain ⟨q1, q2⟩ := lits_in hM (hn r hr)
      exact allOf_in q1 q2 (fun f h => by cases h) f hf
theorem factD_inF {rows : List Row} {n : Int} (h : badA rows n = false) : InF (factD (onceF rows)) := fun f hf => by
  obtain ⟨⟨n0, n8, hl⟩, hn⟩ := badA_ok h
  obtain ⟨o1, o2⟩ := onceF_ok rows
  obtain ⟨⟨k0, k1⟩, ⟨l0, l1⟩, c0, c1⟩ := factF_in (M := 1000) (n := n.toNat) (by omega) _ (onceF rows) (by omega) (fun r hr => by have := hn r (o2 r hr); omega) f hf
  exact ⟨⟨by omega, by omega⟩, ⟨by omega, by omega⟩, ⟨by omega, by omega⟩⟩
/-- what a form comes to, whatever stands behind -/
def EvF (ins : List Bool) (R : List Fm) (v : Bool) : Prop := ∀ (F : Nat) (rest : List Fm), R.length ≤ F → evalF ins F (R ++ rest) = v
def satL (ins : List Bool) (x : Li) : Bool := ins.getD x.p false != decide (x.c = 48)
/-- does a row fit -/
def rowV (ins : List Bool) (r : Row) : Bool := (litsAt 0 r).all (satL ins)
theorem evL {ins : List Bool} (x : Li) : EvF ins [formL x] (satL ins x) := fun F rest hF => by
  obtain ⟨d, rfl⟩ : ∃ d, F = d + 1 := ⟨F - 1, by simp at hF; omega⟩
  show (if (2 : Int) = 0 then false else if (2 : Int) = 1 then true else if (2 : Int) = 2 then litV ins (2 * x.p + (if x.c = 48 then 1 else 0)) else _) = _
  rw [if_neg (by decide), if_neg (by decide), if_pos rfl]
  unfold litV satL
  by_cases h : x.c = 48
  · rw [if_pos h, show ((2 * (x.p : Int) + 1) / 2).toNat = x.p by omega, decide_eq_true h, decide_eq_true (by omega)]
  · rw [if_neg h, show ((2 * (x.p : Int) + 0) / 2).toNat = x.p by omega, decide_eq_false h, decide_eq_false (by omega)]
theorem ev0 {ins : List Bool} : EvF ins [⟨0, 0, 0⟩] false := fun F rest hF => by
  obtain ⟨d, rfl⟩ : ∃ d, F = d + 1 := ⟨F - 1, by simp at hF; omega⟩
  rfl
theorem ev1 {ins : List Bool} : EvF ins [⟨1, 0, 0⟩] true := fun F rest hF => by
  obtain ⟨d, rfl⟩ : ∃ d, F = d + 1 := ⟨F - 1, by simp at hF; omega⟩
  rfl
theorem foldV_lits {ins : List Bool} {F : Nat} (hF : 1 ≤ F) (k : Nat) : ∀ (ls : List Li) (rest : List Fm) (b : Bool), (∀ x ∈ ls, x.p < ins.length) → foldV true (formF ins.length F) (evalF ins F) (ls.length + k) (ls.map formL ++ rest) b = foldV true (formF ins.length F) (evalF ins F) k rest (b && ls.all (satL ins))
  | [], rest, b, _ => by simp
  | x :: ls, rest, b, h => by
    rw [show (x :: ls).length + k = (ls.length + k) + 1 by simp; omega, List.map_cons, List.cons_append]
    rw [foldV_step (l := formL x :: (ls.map formL ++ rest)) (r := ls.map formL ++ rest) (formL_is (h x List.mem_cons_self) F _ (by simpa using hF))]
    rw [foldV_lits hF k ls rest _ fun y hy => h y (List.mem_cons_of_mem _ hy)]
    rw [show evalF ins F (formL x :: (ls.map formL ++ rest)) = satL ins x from evL x F _ (by simpa using hF)]
    simp [Bool.and_assoc]
theorem evAll {ins : List Bool} {ls : List Li} {R : List Fm} {v : Bool} (hls : ∀ x ∈ ls, x.p < ins.length) (hne : ls ≠ []) (hR : IsF ins.length R) (hv : EvF ins R v) (hRn : restF R = [] → v = true) : EvF ins (allOfF ls R) (ls.all (satL ins) && v) := fun F rest hF => by
  have hpos := List.length_pos_iff.2 hne
  unfold allOfF at hF ⊢
  by_cases hK : 1 < kidsN ls R
  · rw [if_pos hK] at hF ⊢
    obtain ⟨d, rfl⟩ : ∃ d, F = d + 1 := ⟨F - 1, by simp at hF; omega⟩
    simp only [List.length_append, List.length_cons, List.length_nil, List.length_map] at hF
    show foldV true (formF ins.length d) (evalF ins d) ((kidsN ls R : Nat) : Int).toNat (ls.map formL ++ restF R ++ rest) true = _
    rw [Int.toNat_natCast, List.append_assoc]
    by_cases h0 : restF R = []
    · rw [h0, List.nil_append, kidsN, if_pos h0, foldV_lits (by omega) 0 ls rest _ hls, hRn h0]
      simp [foldV]
    · rcases restF_or R with h | h
      · exact absurd h h0
      rw [h] at hF ⊢
      rw [kidsN, if_neg h0, foldV_lits (by omega) 1 ls (R ++ rest) _ hls]
      rw [foldV_step (r := rest) (hR d rest (by omega)), hv d rest (by omega)]
      simp [foldV]
  · rw [if_neg hK] at hF ⊢
    have hr : restF R = [] := by
      by_cases h : restF R = []
      · exact h
      · exfalso
        rw [kidsN, if_neg h] at hK
        omega
    have hl : ls.length = 1 := by
      rw [kidsN, if_pos hr] at hK
      omega
    obtain ⟨x, rfl⟩ := List.length_eq_one_iff.1 hl
    rw [hr] at hF ⊢
    rw [hRn hr]
    have := evL (ins := ins) x F rest (by simpa using hF)
    simpa using this
theorem evNil {ins : List Bool} {ls : List Li} (hls : ∀ x ∈ ls, x.p < ins.length) (hne : ls ≠ []) : EvF ins (allOfF ls []) (ls.all (satL ins)) := by
  have h := evAll (R := [⟨1, 0, 0⟩]) hls hne (node_is (.inr rfl)) ev1 fun _ => rfl
  rw [Bool.and_true] at h
  exact h
theorem foldV_flat {ins : List Bool} {F : Nat} : ∀ (rows : List Row) (rest : List Fm) (b : Bool), (∀ r ∈ rows, r.length = ins.length ∧ litsAt 0 r ≠ []) → (rows.flatMap fun r => allOfF (litsAt 0 r) []).length ≤ F → foldV false (formF ins.length F) (evalF ins F) rows.length ((rows.flatMap fun r => allOfF (litsAt 0 r) []) ++ rest) b = (b || rows.any (rowV ins))
  | [], rest, b, _, _ => by simp [foldV]
  | r :: rows, rest, b, h, hF => by
    rw [List.flatMap_cons, List.length_append] at hF
    obtain ⟨h1, h2⟩ := h r List.mem_cons_self
    have hx : ∀ x ∈ litsAt 0 r, x.p < ins.length := fun x hx => by
      obtain ⟨_, h3, _⟩ := litsAt_mem r 0 x hx
      have := (List.getElem?_eq_some_iff.1 h3).1
      omega
    rw [List.flatMap_cons, List.append_assoc, List.length_cons]
    rw [foldV_step (r := (rows.flatMap fun r => allOfF (litsAt 0 r) []) ++ rest) (allOf_nil hx h2 F _ (by omega))]
    rw [evNil hx h2 F _ (by omega), foldV_flat rows rest _ (fun y hy => h y (List.mem_cons_of_mem _ hy)) (by omega)]
    rw [List.any_cons, ← Bool.or_assoc]
    rfl
theorem set_lits : ∀ (r : Row) (i p : Nat) (c : UInt8), i ≤ p → r[p - i]? = some c → c ≠ 45 → ∀ f : Li → Bool, (litsAt i r).all f = (f ⟨p, c⟩ && (litsAt i (r.set (p - i) 45)).all f)
  | [], _, _, _, _, h, _, _ => by cases h
  | a :: r, i, p, c, hi, h, hc, f => by
    by_cases e : p = i
    · subst e
      rw [Nat.sub_self] at h ⊢
      have : a = c := by simpa using h
      subst this
      simp only [List.set_cons_zero, litsAt]
      rw [if_neg hc, if_pos trivial, List.all_cons]
    · obtain ⟨q, hq⟩ : ∃ q, p - i = q + 1 := ⟨p - i - 1, by omega⟩
      rw [hq, List.getElem?_cons_succ] at h
      have ih := set_lits r (i + 1) p c (by omega) (by rw [show p - (i + 1) = q by omega]; exact h) hc f
      rw [show p - (i + 1) = q by omega] at ih
      rw [hq, List.set_cons_succ]
      simp only [litsAt]
      by_cases ha : a = 45
      · rw [if_pos ha, if_pos ha]; exact ih
      · rw [if_neg ha, if_neg ha, List.all_cons, List.all_cons, ih]
        cases f ⟨i, a⟩ <;> cases f ⟨p, c⟩ <;> rfl
theorem rowV_set {ins : List Bool} {r : Row} {x : Li} (h : r[x.p]? = some x.c) (hc : x.c ≠ 45) : rowV ins r = (satL ins x && rowV ins (r.set x.p 45)) := set_lits r 0 x.p x.c (Nat.zero_le _) h hc (satL ins)
theorem rowV_div {ins : List Bool} : ∀ (ls : List Li) (r : Row), ls.Pairwise (fun x y => x.p < y.p) → (∀ x ∈ ls, r[x.p]? = some x.c ∧ x.c ≠ 45) → rowV ins r = (ls.all (satL ins) && rowV ins (divL ls r))
  | [], _, _, _ => rfl
  | x :: ls, r, hp, hx => by
    obtain ⟨h1, h2⟩ := List.pairwise_cons.1 hp
    obtain ⟨h3, h4⟩ := hx x List.mem_cons_self
    have ih := rowV_div (ins := ins) ls (r.set x.p 45) h2 fun y hy => by
      have h5 := h1 y hy
      rw [List.getElem?_set_ne (by omega)]
      exact hx y (List.mem_cons_of_mem _ hy)
    rw [rowV_set h3 h4, ih, List.all_cons, Bool.and_assoc]
    rfl
theorem any_div {ins : List Bool} {rows : List Row} (ls : List Li) (hp : ls.Pairwise fun x y => x.p < y.p) (hx : ∀ x ∈ ls, x.c ≠ 45 ∧ ∀ r ∈ rows, r[x.p]? = some x.c) : rows.any (rowV ins) = (ls.all (satL ins) && (rows.map (divL ls)).any (rowV ins)) := by
  induction rows with
  | nil => simp
  | cons r rows ih =>
    have ih := ih fun x h => ⟨(hx x h).1, fun r hr => (hx x h).2 r (List.mem_cons_of_mem _ hr)⟩
    rw [List.any_cons, List.map_cons, List.any_cons, ih, rowV_div ls r hp fun x h => ⟨(hx x h).2 r List.mem_cons_self, (hx x h).1⟩]
    cases ls.all (satL ins) <;> rfl
theorem any_sel {ins : List Bool} (rows : List Row) (x : Li) (hx : x.c ≠ 45) : rows.any (rowV ins) = ((satL ins x && ((selR x true rows).map fun r => r.set x.p 45).any (rowV ins)) || (selR x false rows).any (rowV ins)) := by
  induction rows with
  | nil => simp [selR]
  | cons r rows ih =>
    unfold selR at *
    rw [List.any_cons, ih]
    cases hb : hadB x r with
    | true =>
      rw [List.filter_cons_of_pos (by rw [hb]; rfl), List.filter_cons_of_neg (by rw [hb]; decide), List.map_cons, List.any_cons, rowV_set (of_decide_eq_true hb) hx]
      cases satL ins x <;> simp [Bool.or_assoc]
    | false =>
      rw [List.filter_cons_of_neg (by rw [hb]; decide), List.filter_cons_of_pos (by rw [hb]; rfl), List.any_cons]
      cases rowV ins r <;> simp
/-- a factor is true just where a row fits -/
theorem factF_means (ins : List Bool) : ∀ (d : Nat) (rows : List Row), mz rows + rows.length ≤ d → (∀ r ∈ rows, r.length = ins.length) → EvF ins (factF d rows) (rows.any (rowV ins))
  | 0, rows, hd, _ => by
    have : rows = [] := List.length_eq_zero_iff.1 (by omega)
    subst this
    exact ev0
  | d + 1, rows, hd, hn => by
    have his := factF_is ins.length (d + 1) rows hd hn
    unfold factF at his ⊢
    split
    · rename_i h
      rw [h]
      exact ev0
    rename_i hne
    rw [if_neg hne] at his
    have hpos := List.length_pos_iff.2 hne
    obtain ⟨r0, rs, hrows⟩ := List.exists_cons_of_ne_nil hne
    have hr0 : (rows.headD []).length = ins.length := by
      rw [hrows]
      exact hn r0 (by rw [hrows]; exact List.mem_cons_self)
    split
    · rename_i hany
      have : rows.any (rowV ins) = true := by
        obtain ⟨r, hr, h⟩ := List.any_eq_true.1 hany
        refine List.any_eq_true.2 ⟨r, hr, ?_⟩
        have h1 := (isAll_iff r).1 h
        rw [← litsAt_cst r 0] at h1
        rw [rowV, List.length_eq_zero_iff.1 h1]
        rfl
      rw [this]
      exact ev1
    rename_i hany
    split
    · rename_i hc
      have h2 := mz_div (rows := rows) (comL rows) (comL_sorted rows) fun x hx => comL_ok hx
      have hcp := List.length_pos_iff.2 hc
      have h4 : (comL rows).length ≤ rows.length * (comL rows).length := Nat.le_mul_of_pos_left _ hpos
      have hdl : ∀ r ∈ rows.map (divL (comL rows)), r.length = ins.length := fun r hr => by
        obtain ⟨r1, h1, rfl⟩ := List.mem_map.1 hr
        rw [divL_len]
        exact hn r1 h1
      rw [any_div (comL rows) (comL_sorted rows) fun x hx => comL_ok hx]
      have hf := factF_means ins d _ (by rw [List.length_map]; omega) hdl
      refine evAll (fun x hx => ?_) hc (factF_is ins.length d _ (by rw [List.length_map]; omega) hdl) hf fun h => ?_
      · have h1 := (comL_ok hx).2 r0 (by rw [hrows]; exact List.mem_cons_self)
        have h3 := (List.getElem?_eq_some_iff.1 h1).1
        have := hn r0 (by rw [hrows]; exact List.mem_cons_self)
        omega
      · have hq := hf (factF d (rows.map (divL (comL rows)))).length [] (Nat.le_refl _)
        rw [← hq, List.append_nil]
        have h0 : factF d (rows.map (divL (comL rows))) ≠ [] := fun e => by
          have := factF_is ins.length d _ (by rw [List.length_map]; omega) hdl 0 [] (by rw [e]; exact Nat.le_refl _)
          cases this
        generalize factF d (rows.map (divL (comL rows))) = R at *
        cases R with
        | nil => exact absurd rfl h0
        | cons f l =>
          have h : (if f.k = 1 then [] else f :: l) = [] := h
          by_cases hk : f.k = 1
          · show (if f.k = 0 then false else if f.k = 1 then true else _) = true
            rw [if_neg (by omega), if_pos hk]
          · rw [if_neg hk] at h; cases h
    rename_i hcn
    rw [hr0]
    split
    · rename_i hb
      obtain ⟨b1, b2, b3⟩ := best_ok hb
      generalize (bestF rows (cands ins.length)).1 = x at *
      obtain ⟨m1, m2⟩ := mz_sel rows x b2
      have d1 : ∀ r ∈ (selR x true rows).map fun r => r.set x.p 45, r.length = ins.length := fun r hr => by
        obtain ⟨r1, h1, rfl⟩ := List.mem_map.1 hr
        rw [List.length_set]
        exact hn r1 (List.mem_filter.1 h1).1
      have d2 : ∀ r ∈ selR x false rows, r.length = ins.length := fun r hr => hn r (List.mem_filter.1 hr).1
      have i1 := factF_is ins.length d ((selR x true rows).map fun r => r.set x.p 45) (by rw [List.length_map]; omega) d1
      have i2 := factF_is ins.length d (selR x false rows) (by omega) d2
      have f1 := factF_means ins d ((selR x true rows).map fun r => r.set x.p 45) (by rw [List.length_map]; omega) d1
      have f2 := factF_means ins d (selR x false rows) (by omega) d2
      have ia := allOf_is (ls := [x]) (fun y hy => by rw [List.mem_singleton.1 hy]; exact b1) (by simp) i1
      have fa := evAll (ls := [x]) (fun y hy => by rw [List.mem_singleton.1 hy]; exact b1) (by simp) i1 f1 fun h => by
        have hq := f1 (factF d ((selR x true rows).map fun r => r.set x.p 45)).length [] (Nat.le_refl _)
        rw [← hq, List.append_nil]
        have h0 : factF d ((selR x true rows).map fun r => r.set x.p 45) ≠ [] := fun e => by
          have := i1 0 [] (by rw [e]; exact Nat.le_refl _)
          cases this
        generalize factF d ((selR x true rows).map fun r => r.set x.p 45) = R at *
        cases R with
        | nil => exact absurd rfl h0
        | cons f l =>
          have h : (if f.k = 1 then [] else f :: l) = [] := h
          by_cases hk : f.k = 1
          · show (if f.k = 0 then false else if f.k = 1 then true else _) = true
            rw [if_neg (by omega), if_pos hk]
          · rw [if_neg hk] at h; cases h
      intro F rest hF
      obtain ⟨e, rfl⟩ : ∃ e, F = e + 1 := ⟨F - 1, by simp at hF; omega⟩
      rw [List.length_cons, List.length_append] at hF
      rw [any_sel rows x b2]
      simp only [List.all_cons, List.all_nil, Bool.and_true] at fa
      generalize allOfF [x] (factF d ((selR x true rows).map fun r => r.set x.p 45)) = A at *
      generalize factF d (selR x false rows) = B at *
      show foldV false (formF ins.length e) (evalF ins e) 2 (A ++ B ++ rest) false = _
      rw [List.append_assoc, foldV_step (r := B ++ rest) (ia e _ (by omega)), foldV_step (r := rest) (i2 e _ (by omega)), fa e _ (by omega), f2 e _ (by omega)]
      simp [foldV]
    · have hla : ∀ r ∈ rows, r.length = ins.length ∧ litsAt 0 r ≠ [] := fun r hr => ⟨hn r hr, fun e => by
        have : isAllB r = true := (isAll_iff r).2 (by rw [← litsAt_cst r 0, e]; rfl)
        exact hany (List.any_eq_true.2 ⟨r, hr, this⟩)⟩
      intro F rest hF
      obtain ⟨e, rfl⟩ : ∃ e, F = e + 1 := ⟨F - 1, by simp at hF; omega⟩
      rw [List.length_cons] at hF
      show foldV false (formF ins.length e) (evalF ins e) ((rows.length : Nat) : Int).toNat ((rows.flatMap fun r => allOfF (litsAt 0 r) []) ++ rest) false = _
      rw [Int.toNat_natCast, foldV_flat rows rest false hla (by omega), Bool.false_or]
end Go.Proofs.YtfflfmpkjcomgaaDoor
