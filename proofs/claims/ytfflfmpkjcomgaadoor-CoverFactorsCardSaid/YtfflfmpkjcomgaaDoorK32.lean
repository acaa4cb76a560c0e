import Derived.Test.YtfflfmpkjcomgaaDoorK31
namespace Go.Proofs.YtfflfmpkjcomgaaDoor
open Go.RowKit
set_option maxRecDepth 100000
set_option linter.unusedSimpArgs false
variable (Hy : World → Prop)
attribute [local irreducible] runM runD cwp seqQ blkQ lpQ retQ asQ bdQ bdY retP endR preD retD
theorem tru_is {n : Int} {R : List Fm} (h : IsF n R) : restF R = [] ↔ truB R = true := by
  cases R with
  | nil => have := h 0 [] (Nat.le_refl _); cases this
  | cons f l =>
    have h1 := h (l.length + 1) [] (Nat.le_refl _)
    rw [List.append_nil] at h1
    obtain ⟨hp, hk⟩ := form_some h1
    have hg := plainB_get hp
    show (if f.k = 1 then [] else f :: l) = [] ↔ _
    by_cases hf : f.k = 1
    · have h0 : f.kids = 0 := by omega
      rw [h0] at hk
      have hl : l = [] := Option.some.inj hk
      subst hl
      rw [if_pos hf]
      exact ⟨fun _ => decide_eq_true hf, fun _ => rfl⟩
    · rw [if_neg hf]
      refine ⟨fun h => (by cases h), fun h => ?_⟩
      cases l with
      | nil => exact absurd (of_decide_eq_true h) hf
      | cons g l => cases h
theorem okS_set {r : Row} {i : Nat} (h : okS r) : okS (r.set i 45) := fun c hc => by
  rcases List.mem_or_eq_of_mem_set hc with hc | rfl
  · exact h c hc
  · exact .inr (.inr rfl)
theorem okS_div : ∀ (ls : List Li) (r : Row), okS r → okS (divL ls r)
  | [], _, h => h
  | x :: ls, r, h => okS_div ls (r.set x.p 45) (okS_set h)
theorem all_lits (r : Row) : isAllB r = true ↔ litsAt 0 r = [] := by
  rw [isAll_iff, ← litsAt_cst r 0, List.length_eq_zero_iff]
set_option maxHeartbeats 16000000 in
theorem rfactor_ct (n : Nat) (hn2 : n ≤ 1000000) : ∀ (d : Nat) (rows : List Row), mz rows + rows.length ≤ d → mz rows ≤ 1000000 → rows.length ≤ 1000000 → (∀ r ∈ rows, r.length = n) → (∀ r ∈ rows, okS r) → Ct Tryd.prog Hy 30 [rL rows] [fL (factF d rows)] := by
  have empty : Ct Tryd.prog Hy 30 [rL []] [fL [⟨0, 0, 0⟩]] := by
    refine ct_of (cls := _root_.id) tt_ok follows_ Tryd.func30 rfl (by decide) (Nat.le_of_ble_eq_true rfl) ?_
    rw [show Tryd.f30.ntmps = 110 from rfl, s0_nf]
    simp only [List.zipIdx_cons, List.zipIdx_nil, List.map_cons, List.map_nil, Nat.reduceAdd, rL, List.map_nil]
    repeat' first | refine c_seq ?_ | refine c_reg' rfl fun K E hK hE => ?_ | (refine r_opN fun κ η => ?_; simp only [go_sem, Nat.reduceLT, Nat.reduceEqDiff, Nat.reduceAdd, Nat.reduceMul, Nat.reduceLeDiff, Nat.le_refl, reduceIte, reduceCtorEq, List.length_nil, Int.natCast_zero]; refine η _ ?_; clear η κ) | (refine r_nil (hK _ ?_); clear hE hK E K) | refine q_seq ?_
    refine c_cond _ rfl (fun hq => ?_) (fun hq => (by cases hq))
    repeat' first | refine c_seq ?_ | refine c_reg' rfl fun K E hK hE => ?_ | (refine r_opN fun κ η => ?_; simp only [go_sem, Nat.reduceLT, Nat.reduceEqDiff, Nat.reduceAdd, Nat.reduceMul, Nat.reduceLeDiff, Nat.le_refl, reduceIte, reduceCtorEq]; refine η _ ?_; clear η κ) | (refine r_nil (hK _ ?_); clear hE hK E K) | refine q_seq ?_ | refine c_ret ?_ | refine q_seqR ?_ | (refine q_ret ?_; refine q_r1 ?_; simp only [go_sem, Nat.reduceLT, Nat.reduceEqDiff, Nat.reduceAdd, Nat.reduceMul, Nat.reduceLeDiff, Nat.le_refl, reduceIte, reduceCtorEq])
    rfl
  intro d
  induction d with
  | zero =>
    intro rows h0 _ _ _ _
    have : rows = [] := List.length_eq_zero_iff.1 (by omega)
    subst this
    exact empty
  | succ d ih =>
    intro rows hd hmz hl hn hok
    by_cases hne : rows = []
    · subst hne
      exact empty
    have hpos := List.length_pos_iff.2 hne
    have hne0 : ((rows.length : Int) = 0) = False := eq_false (by omega)
    obtain ⟨r0, rs, hrows⟩ := List.exists_cons_of_ne_nil hne
    have hm0 : r0 ∈ rows := by rw [hrows]; exact List.mem_cons_self
    have hr0 : (rows.headD []).length = n := by
      rw [hrows]
      exact hn r0 hm0
    obtain ⟨cm, hcom, hcl, hcn, hco⟩ : ∃ cm, Ct Tryd.prog Hy 57 [rL rows] [.s (mk cm)] ∧ litsAt 0 cm = comL rows ∧ cm.length = n ∧ okS cm := by
      have h1 : ∀ r ∈ rs, r.length = r0.length := fun r hr => by rw [hn r0 hm0]; exact hn r (by rw [hrows]; exact List.mem_cons_of_mem _ hr)
      refine ⟨comS r0 rs, ?_, ?_, ?_, comS_ok rs r0 (hok r0 hm0)⟩
      · rw [hrows]
        refine rcommon_ct Hy r0 rs ?_ h1 (by rw [hn r0 hm0]; exact hn2)
        rw [hrows, List.length_cons] at hl
        omega
      · rw [hrows]
        exact lits_com r0 rs h1
      · rw [comS_len rs r0 h1]
        exact hn r0 hm0
    clear hrows rs hm0 r0
    have hun : factF (d + 1) rows = if rows = [] then [⟨0, 0, 0⟩]
      else if rows.any isAllB = true then [⟨1, 0, 0⟩]
      else if comL rows ≠ [] then allOfF (comL rows) (factF d (rows.map (divL (comL rows))))
      else if 1 < (bestF rows (cands (rows.headD []).length)).2 then
        ⟨4, 0, 2⟩ :: (allOfF [(bestF rows (cands (rows.headD []).length)).1] (factF d ((selR (bestF rows (cands (rows.headD []).length)).1 true rows).map fun r => r.set (bestF rows (cands (rows.headD []).length)).1.p 45)) ++ factF d (selR (bestF rows (cands (rows.headD []).length)).1 false rows))
      else ⟨4, 0, rows.length⟩ :: rows.flatMap fun r => allOfF (litsAt 0 r) [] := rfl
    rw [hun, if_neg hne, hr0]
    clear hun
    refine ct_of (cls := _root_.id) tt_ok follows_ Tryd.func30 rfl (by decide) (Nat.le_of_ble_eq_true rfl) ?_
    rw [show Tryd.f30.ntmps = 110 from rfl, s0_nf]
    simp only [List.zipIdx_cons, List.zipIdx_nil, List.map_cons, List.map_nil, Nat.reduceAdd, rL]
    repeat' first | refine c_seq ?_ | refine c_reg' rfl fun K E hK hE => ?_ | (refine r_opN fun κ η => ?_; simp only [go_sem, Nat.reduceLT, Nat.reduceEqDiff, Nat.reduceAdd, Nat.reduceMul, Nat.reduceLeDiff, Nat.le_refl, reduceIte, reduceCtorEq, hne0]; refine η _ ?_; clear η κ) | (refine r_nil (hK _ ?_); clear hE hK E K) | refine q_seq ?_
    refine c_cond _ rfl (fun hq => (by cases hq)) (fun hq => ?_)
    repeat' first | refine c_seq ?_ | refine c_block ?_ | refine c_reg' rfl fun K E hK hE => ?_ | (refine r_opN fun κ η => ?_; simp only [go_sem, Nat.reduceLT, Nat.reduceEqDiff, Nat.reduceAdd, Nat.reduceMul, Nat.reduceLeDiff, Nat.le_refl, reduceIte, reduceCtorEq]; refine η _ ?_; clear η κ) | (refine r_nil (hK _ ?_); clear hE hK E K) | refine q_seq ?_ | refine c_skip ?_
    refine c_loop (fun m s' => ∃ k : Nat, m = rows.length - k ∧ k ≤ rows.length ∧ (∀ (j : Nat) r, j < k → rows[j]? = some r → isAllB r = false) ∧ ∃ F G0, s' = nf 110 F G0 [(0, .t (rL rows)), (3, .t (.i .i64 k))] []) (rows.length) ?_ ?_
    · exact ⟨0, by omega, by omega, fun j c hj => absurd hj (Nat.not_lt_zero j), _, _, nf_of rfl ⟨rfl, rfl, trivial⟩ trivial⟩
    rintro m s' ⟨k, rfl, hk, hno, F, G0, rfl⟩
    simp only [rL]
    repeat' first | refine c_seq ?_ | refine c_reg' rfl fun K E hK hE => ?_ | (refine r_opN fun κ η => ?_; simp only [go_sem, Nat.reduceLT, Nat.reduceEqDiff, Nat.reduceAdd, Nat.reduceMul, Nat.reduceLeDiff, Nat.le_refl, reduceIte, reduceCtorEq]; refine η _ ?_; clear η κ) | (refine r_nil (hK _ ?_); clear hE hK E K) | refine q_seq ?_
    refine c_cond _ rfl (fun hq => ?_) (fun hq => ?_)
    · simp only [decide_eq_true_eq] at hq
      obtain ⟨r, hr⟩ : ∃ r, rows[k]? = some r := ⟨_, List.getElem?_eq_getElem (by omega)⟩
      have hrm := List.mem_of_getElem? hr
      have hfr := rfree_ct Hy r (by rw [hn r hrm]; exact hn2)
      repeat' first | refine c_seq ?_ | refine c_block ?_ | refine c_reg' rfl fun K E hK hE => ?_ | (refine r_opN fun κ η => ?_; simp only [go_sem, Nat.reduceLT, Nat.reduceEqDiff, Nat.reduceAdd, Nat.reduceMul, Nat.reduceLeDiff, Nat.le_refl, reduceIte, reduceCtorEq, hr]; (repeat refine ⟨by omega, ?_⟩); refine η _ ?_; clear η κ) | refine q_seq ?_ | refine c_skip ?_
      refine r_opN fun κ η => ?_; simp only [go_sem, Nat.reduceLT, Nat.reduceEqDiff, Nat.reduceAdd, Nat.reduceMul, Nat.reduceLeDiff, Nat.le_refl, reduceIte, reduceCtorEq]; refine ⟨_, hfr, ?_⟩; simp only [go_sem, Nat.reduceLT, Nat.reduceEqDiff, Nat.reduceAdd, Nat.reduceMul, Nat.reduceLeDiff, Nat.le_refl, reduceIte, reduceCtorEq]; refine η _ ?_; clear η κ
      repeat' first | (refine r_nil (hK _ ?_); clear hE hK E K) | refine q_seq ?_
      cases hb : isAllB r with
      | true =>
        rw [if_pos (List.any_eq_true.2 ⟨r, hrm, hb⟩)]
        refine c_cond _ rfl (fun hq => ?_) (fun hq => (by cases hq))
        repeat' first | refine c_seq ?_ | refine c_reg' rfl fun K E hK hE => ?_ | (refine r_opN fun κ η => ?_; simp only [go_sem, Nat.reduceLT, Nat.reduceEqDiff, Nat.reduceAdd, Nat.reduceMul, Nat.reduceLeDiff, Nat.le_refl, reduceIte, reduceCtorEq]; refine η _ ?_; clear η κ) | (refine r_nil (hK _ ?_); clear hE hK E K) | refine q_seq ?_ | refine c_ret ?_ | refine q_seqR ?_ | refine q_blkR ?_ | refine q_lpR ?_ | (refine q_ret ?_; refine q_r1 ?_; simp only [go_sem, Nat.reduceLT, Nat.reduceEqDiff, Nat.reduceAdd, Nat.reduceMul, Nat.reduceLeDiff, Nat.le_refl, reduceIte, reduceCtorEq])
        rfl
      | false =>
        refine c_cond _ rfl (fun hq => (by cases hq)) (fun hq => ?_)
        repeat' first | refine c_reg' rfl fun K E hK hE => ?_ | (refine r_opN fun κ η => ?_; simp only [go_sem, Nat.reduceLT, Nat.reduceEqDiff, Nat.reduceAdd, Nat.reduceMul, Nat.reduceLeDiff, Nat.le_refl, reduceIte, reduceCtorEq]; (repeat refine ⟨by omega, ?_⟩); refine η _ ?_; clear η κ) | (refine r_nil (hK _ ?_); clear hE hK E K) | refine q_seq ?_ | refine q_blk ?_ | refine c_skip ?_ | refine q_lpN ?_
        refine ⟨rows.length - (k + 1), by omega, k + 1, rfl, by omega, fun j y hj hy => ?_, _, _, nf_of rfl ⟨rfl, rfl, trivial⟩ trivial⟩
        rcases Nat.lt_or_eq_of_le (Nat.lt_succ_iff.1 hj) with h | rfl
        · exact hno j y h hy
        · rw [hr] at hy; cases hy; exact hb
    simp only [decide_eq_false_iff_not] at hq
    have hany : ¬ rows.any isAllB = true := fun h => by
      obtain ⟨r, hr, hb⟩ := List.any_eq_true.1 h
      obtain ⟨j, hj⟩ := List.getElem?_of_mem hr
      have := (List.getElem?_eq_some_iff.1 hj).1
      rw [hno j r (by omega) hj] at hb
      cases hb
    rw [if_neg hany]
    clear hno hq hk
    have hfr := rfree_ct Hy cm (by omega)
    have hcb : isAllB cm = decide (comL rows = []) := by
      rw [Bool.eq_iff_iff, all_lits, hcl, decide_eq_true_eq]
    simp only [rL] at hcom
    repeat' first | refine c_seq ?_ | refine c_reg' rfl fun K E hK hE => ?_ | (refine r_opN fun κ η => ?_; simp only [go_sem, Nat.reduceLT, Nat.reduceEqDiff, Nat.reduceAdd, Nat.reduceMul, Nat.reduceLeDiff, Nat.le_refl, reduceIte, reduceCtorEq]; refine η _ ?_; clear η κ) | refine q_seq ?_ | refine c_exit ?_ | refine q_seqE ?_ | refine q_blkHit ?_ | refine q_lpE ?_
    refine r_opN fun κ η => ?_; simp only [go_sem, Nat.reduceLT, Nat.reduceEqDiff, Nat.reduceAdd, Nat.reduceMul, Nat.reduceLeDiff, Nat.le_refl, reduceIte, reduceCtorEq]; refine ⟨_, hcom, ?_⟩; simp only [go_sem, Nat.reduceLT, Nat.reduceEqDiff, Nat.reduceAdd, Nat.reduceMul, Nat.reduceLeDiff, Nat.le_refl, reduceIte, reduceCtorEq]; refine η _ ?_; clear η κ
    repeat' first | refine c_seq ?_ | refine c_reg' rfl fun K E hK hE => ?_ | (refine r_opN fun κ η => ?_; simp only [go_sem, Nat.reduceLT, Nat.reduceEqDiff, Nat.reduceAdd, Nat.reduceMul, Nat.reduceLeDiff, Nat.le_refl, reduceIte, reduceCtorEq]; refine η _ ?_; clear η κ) | (refine r_nil (hK _ ?_); clear hE hK E K) | refine q_seq ?_
    refine r_opN fun κ η => ?_; simp only [go_sem, Nat.reduceLT, Nat.reduceEqDiff, Nat.reduceAdd, Nat.reduceMul, Nat.reduceLeDiff, Nat.le_refl, reduceIte, reduceCtorEq]; refine ⟨_, hfr, ?_⟩; simp only [go_sem, Nat.reduceLT, Nat.reduceEqDiff, Nat.reduceAdd, Nat.reduceMul, Nat.reduceLeDiff, Nat.le_refl, reduceIte, reduceCtorEq]; refine η _ ?_; clear η κ
    repeat' first | (refine r_opN fun κ η => ?_; simp only [go_sem, Nat.reduceLT, Nat.reduceEqDiff, Nat.reduceAdd, Nat.reduceMul, Nat.reduceLeDiff, Nat.le_refl, reduceIte, reduceCtorEq]; refine η _ ?_; clear η κ) | (refine r_nil (hK _ ?_); clear hE hK E K) | refine q_seq ?_
    by_cases hc : comL rows ≠ []
    · rw [if_pos hc]
      rw [decide_eq_false hc] at hcb
      rw [hcb]
      have hcp := List.length_pos_iff.2 hc
      have h2 := mz_div (rows := rows) (comL rows) (comL_sorted rows) fun x hx => comL_ok hx
      have h4 : (comL rows).length ≤ rows.length * (comL rows).length := Nat.le_mul_of_pos_left _ hpos
      have hlen := factF_len d (rows.map (divL (comL rows)))
      rw [List.length_map] at hlen
      have hdl : ∀ r ∈ rows.map (divL (comL rows)), r.length = n := fun r hr => by
        obtain ⟨r1, h1, rfl⟩ := List.mem_map.1 hr
        rw [divL_len]
        exact hn r1 h1
      have hf := ih (rows.map (divL (comL rows))) (by rw [List.length_map]; omega) (by omega) (by rw [List.length_map]; exact hl) hdl (fun r hr => by
        obtain ⟨r1, h1, rfl⟩ := List.mem_map.1 hr
        exact okS_div _ _ (hok r1 h1))
      have his := factF_is n d (rows.map (divL (comL rows))) (by rw [List.length_map]; omega) hdl
      have hli := rlits_ct Hy cm (by omega) hco
      rw [hcl] at hli
      have hdv := rdivided_ct Hy rows cm hl (fun r hr => by rw [hn r hr, hcn]) (by omega)
      rw [show rows.map (fun r => woR r cm) = rows.map (divL (comL rows)) from List.map_congr_left fun r hr => by rw [woR_div r cm (by rw [hn r hr, hcn]), hcl]] at hdv
      have ha := rand_ct Hy (comL rows) (factF d (rows.map (divL (comL rows)))) hc (by omega) (by omega) (tru_is his)
      generalize factF d (rows.map (divL (comL rows))) = R at *
      simp only [rL, fL] at hdv hf hli ha ⊢
      refine c_cond _ rfl (fun hq => ?_) (fun hq => (by cases hq))
      repeat' first | refine c_seq ?_ | refine c_reg' rfl fun K E hK hE => ?_ | (refine r_opN fun κ η => ?_; simp only [go_sem, Nat.reduceLT, Nat.reduceEqDiff, Nat.reduceAdd, Nat.reduceMul, Nat.reduceLeDiff, Nat.le_refl, reduceIte, reduceCtorEq]; refine η _ ?_; clear η κ)
      refine r_opN fun κ η => ?_; simp only [go_sem, Nat.reduceLT, Nat.reduceEqDiff, Nat.reduceAdd, Nat.reduceMul, Nat.reduceLeDiff, Nat.le_refl, reduceIte, reduceCtorEq]; refine ⟨_, hli, ?_⟩; simp only [go_sem, Nat.reduceLT, Nat.reduceEqDiff, Nat.reduceAdd, Nat.reduceMul, Nat.reduceLeDiff, Nat.le_refl, reduceIte, reduceCtorEq]; refine η _ ?_; clear η κ
      repeat' (refine r_opN fun κ η => ?_; simp only [go_sem, Nat.reduceLT, Nat.reduceEqDiff, Nat.reduceAdd, Nat.reduceMul, Nat.reduceLeDiff, Nat.le_refl, reduceIte, reduceCtorEq]; refine η _ ?_; clear η κ)
      refine r_opN fun κ η => ?_; simp only [go_sem, Nat.reduceLT, Nat.reduceEqDiff, Nat.reduceAdd, Nat.reduceMul, Nat.reduceLeDiff, Nat.le_refl, reduceIte, reduceCtorEq]; refine ⟨_, hdv, ?_⟩; simp only [go_sem, Nat.reduceLT, Nat.reduceEqDiff, Nat.reduceAdd, Nat.reduceMul, Nat.reduceLeDiff, Nat.le_refl, reduceIte, reduceCtorEq]; refine η _ ?_; clear η κ
      refine r_opN fun κ η => ?_; simp only [go_sem, Nat.reduceLT, Nat.reduceEqDiff, Nat.reduceAdd, Nat.reduceMul, Nat.reduceLeDiff, Nat.le_refl, reduceIte, reduceCtorEq]; refine ⟨_, hf, ?_⟩; simp only [go_sem, Nat.reduceLT, Nat.reduceEqDiff, Nat.reduceAdd, Nat.reduceMul, Nat.reduceLeDiff, Nat.le_refl, reduceIte, reduceCtorEq]; refine η _ ?_; clear η κ
      refine r_opN fun κ η => ?_; simp only [go_sem, Nat.reduceLT, Nat.reduceEqDiff, Nat.reduceAdd, Nat.reduceMul, Nat.reduceLeDiff, Nat.le_refl, reduceIte, reduceCtorEq]; refine ⟨_, ha, ?_⟩; simp only [go_sem, Nat.reduceLT, Nat.reduceEqDiff, Nat.reduceAdd, Nat.reduceMul, Nat.reduceLeDiff, Nat.le_refl, reduceIte, reduceCtorEq]; refine η _ ?_; clear η κ
      repeat' first | (refine r_opN fun κ η => ?_; simp only [go_sem, Nat.reduceLT, Nat.reduceEqDiff, Nat.reduceAdd, Nat.reduceMul, Nat.reduceLeDiff, Nat.le_refl, reduceIte, reduceCtorEq]; refine η _ ?_; clear η κ) | (refine r_nil (hK _ ?_); clear hE hK E K) | refine q_seq ?_ | refine c_ret ?_ | refine q_seqR ?_ | (refine q_ret ?_; refine q_r1 ?_; simp only [go_sem, Nat.reduceLT, Nat.reduceEqDiff, Nat.reduceAdd, Nat.reduceMul, Nat.reduceLeDiff, Nat.le_refl, reduceIte, reduceCtorEq])
    have hcn2 : comL rows = [] := Decidable.not_not.1 hc
    rw [if_neg hc]
    rw [decide_eq_true hcn2] at hcb
    rw [hcb]
    clear hfr hcb hco hcl hcom
    have hn0 : 0 < n := by
      rcases Nat.eq_zero_or_pos n with h | h
      · exfalso
        obtain ⟨r, rs, e⟩ := List.exists_cons_of_ne_nil hne
        have hrm : r ∈ rows := by rw [e]; exact List.mem_cons_self
        have h0 := hn r hrm
        rw [h, List.length_eq_zero_iff] at h0
        exact hany (List.any_eq_true.2 ⟨r, hrm, by rw [h0]; rfl⟩)
      · exact h
    have hmo := rmost_ct Hy rows hne hl n hn hn2 hn0
    obtain ⟨y1, y2⟩ := mostF_ok (rows := rows) (Nat.le_refl n) hn0
    have hmb := most_best rows (cands n) fun _ => cands_head n hn0
    generalize mostF rows (cands n) = y at *
    have hma := rmany_ct Hy rows (sgl n y.p y.c) hl (fun r hr => by rw [sgl_len]; exact hn r hr) (by rw [sgl_len]; exact hn2)
    rw [cnt_sgl rows y1 y2] at hma
    have hyy : (⟨y.p, y.c⟩ : Li) = y := rfl
    rw [hyy] at hma
    have hcle := List.countP_le_length (p := hadB y) (l := rows)
    have hyc : y.c ≠ 45 := by rcases y2 with h | h <;> rw [h] <;> decide
    have hlS := rlits_ct Hy (sgl n y.p y.c) (by rw [sgl_len]; exact hn2) (sgl_ok y2)
    rw [lits_sgl y1 hyc, hyy] at hlS
    have hha : ∀ r ∈ rows, Ct Tryd.prog Hy 63 [.s (mk r), .s (mk (sgl n y.p y.c))] [.b (hadB y r)] := fun r hr => by
      have := rhas_ct Hy r (sgl n y.p y.c) (by rw [sgl_len, hn r hr]) (by rw [hn r hr]; exact hn2)
      rw [has_sgl y1 hyc] at this
      exact this
    have hdv : ∀ l : List Row, l.length ≤ 1000000 → (∀ r ∈ l, r.length = n) → Ct Tryd.prog Hy 60 [rL l, .s (mk (sgl n y.p y.c))] [rL (l.map fun r => r.set y.p 45)] := fun l h1 h2 => by
      have := rdivided_ct Hy l (sgl n y.p y.c) h1 (fun r hr => by rw [h2 r hr, sgl_len]) (by rw [sgl_len]; exact hn2)
      rw [show l.map (fun r => woR r (sgl n y.p y.c)) = l.map (fun r => r.set y.p 45) from List.map_congr_left fun r hr => by rw [woR_div r _ (by rw [h2 r hr, sgl_len]), lits_sgl y1 hyc]; rfl] at this
      exact this
    generalize sgl n y.p y.c = by_ at *
    simp only [rL] at hmo hma
    by_cases hb : rows.countP (hadB y) < 2
    · have hbe := hmb.2 hb
      rw [hbe, if_neg (by decide)]
      have hb' : ((rows.countP (hadB y) : Int) < 2) = True := eq_true (by omega)
      clear hmb hbe hha hdv hlS ih hc hcn2
      refine c_cond _ rfl (fun hq => (by cases hq)) (fun hq => ?_)
      repeat' first | refine c_seq ?_ | refine c_reg' rfl fun K E hK hE => ?_ | (refine r_opN fun κ η => ?_; simp only [go_sem, Nat.reduceLT, Nat.reduceEqDiff, Nat.reduceAdd, Nat.reduceMul, Nat.reduceLeDiff, Nat.le_refl, reduceIte, reduceCtorEq]; refine η _ ?_; clear η κ) | refine q_seq ?_ | refine c_skip ?_
      refine r_opN fun κ η => ?_; simp only [go_sem, Nat.reduceLT, Nat.reduceEqDiff, Nat.reduceAdd, Nat.reduceMul, Nat.reduceLeDiff, Nat.le_refl, reduceIte, reduceCtorEq]; refine ⟨_, hmo, ?_⟩; simp only [go_sem, Nat.reduceLT, Nat.reduceEqDiff, Nat.reduceAdd, Nat.reduceMul, Nat.reduceLeDiff, Nat.le_refl, reduceIte, reduceCtorEq]; refine η _ ?_; clear η κ
      repeat' first | refine c_seq ?_ | refine c_reg' rfl fun K E hK hE => ?_ | (refine r_opN fun κ η => ?_; simp only [go_sem, Nat.reduceLT, Nat.reduceEqDiff, Nat.reduceAdd, Nat.reduceMul, Nat.reduceLeDiff, Nat.le_refl, reduceIte, reduceCtorEq]; refine η _ ?_; clear η κ) | (refine r_nil (hK _ ?_); clear hE hK E K) | refine q_seq ?_
      refine r_opN fun κ η => ?_; simp only [go_sem, Nat.reduceLT, Nat.reduceEqDiff, Nat.reduceAdd, Nat.reduceMul, Nat.reduceLeDiff, Nat.le_refl, reduceIte, reduceCtorEq]; refine ⟨_, hma, ?_⟩; simp only [go_sem, Nat.reduceLT, Nat.reduceEqDiff, Nat.reduceAdd, Nat.reduceMul, Nat.reduceLeDiff, Nat.le_refl, reduceIte, reduceCtorEq]; refine η _ ?_; clear η κ
      repeat' first | (refine r_opN fun κ η => ?_; simp only [go_sem, Nat.reduceLT, Nat.reduceEqDiff, Nat.reduceAdd, Nat.reduceMul, Nat.reduceLeDiff, Nat.le_refl, reduceIte, reduceCtorEq, hb']; refine η _ ?_; clear η κ) | (refine r_nil (hK _ ?_); clear hE hK E K) | refine q_seq ?_
      refine c_cond _ rfl (fun hq => ?_) (fun hq => (by cases hq))
      repeat' first | refine c_seq ?_ | refine c_block ?_ | refine c_reg' rfl fun K E hK hE => ?_ | (refine r_opN fun κ η => ?_; simp only [go_sem, Nat.reduceLT, Nat.reduceEqDiff, Nat.reduceAdd, Nat.reduceMul, Nat.reduceLeDiff, Nat.le_refl, reduceIte, reduceCtorEq]; (repeat refine ⟨by omega, ?_⟩); refine η _ ?_; clear η κ) | (refine r_nil (hK _ ?_); clear hE hK E K) | refine q_seq ?_
      refine c_loop (fun m s' => ∃ k : Nat, m = rows.length - k ∧ k ≤ rows.length ∧ ∃ F G0 q, s' = nf 110 F G0 [(0, .t (rL rows)), (6, .row 44 q), (7, .t (.i .i64 k))] [] ∧ G0 44 = ⟨q, .row 58 3 ([.i .i64 4, .i .i64 0, .i .i64 rows.length] :: ((rows.take k).flatMap fun r => allOfF (litsAt 0 r) []).map fE)⟩) rows.length ?_ ?_
      · exact ⟨0, by omega, by omega, _, _, _, nf_of rfl ⟨rfl, rfl, rfl, trivial⟩ trivial, rfl⟩
      rintro m s' ⟨k, rfl, hk, F, G0, q, rfl, h44⟩
      have hfl := flat_take rows k
      have hflen : (((rows.take k).flatMap fun r => allOfF (litsAt 0 r) []).map fE).length ≤ 10000000 := by rw [List.length_map]; omega
      simp only [rL]
      repeat' first | refine c_seq ?_ | refine c_reg' rfl fun K E hK hE => ?_ | (refine r_opN fun κ η => ?_; simp only [go_sem, Nat.reduceLT, Nat.reduceEqDiff, Nat.reduceAdd, Nat.reduceMul, Nat.reduceLeDiff, Nat.le_refl, reduceIte, reduceCtorEq]; refine η _ ?_; clear η κ) | (refine r_nil (hK _ ?_); clear hE hK E K) | refine q_seq ?_
      refine c_cond _ rfl (fun hq => ?_) (fun hq => ?_)
      · simp only [decide_eq_true_eq] at hq
        obtain ⟨r, hr⟩ : ∃ r, rows[k]? = some r := ⟨_, List.getElem?_eq_getElem (by omega)⟩
        have hrm := List.mem_of_getElem? hr
        have hli := rlits_ct Hy r (by rw [hn r hrm]; exact hn2) (hok r hrm)
        have hll := litsAt_len r 0
        have hrn := hn r hrm
        have hal := allOfF_len0 (litsAt 0 r)
        have hs : (((rows.take (k + 1)).flatMap fun r => allOfF (litsAt 0 r) []).map fE) = (((rows.take k).flatMap fun r => allOfF (litsAt 0 r) []).map fE) ++ (allOfF (litsAt 0 r) []).map fE := by
          rw [List.take_add_one, hr, List.flatMap_append, List.map_append]
          simp
        have hne2 : litsAt 0 r ≠ [] := fun e => by
          exact hany (List.any_eq_true.2 ⟨r, hrm, (all_lits r).2 e⟩)
        have ha := rand_ct Hy (litsAt 0 r) [⟨1, 0, 0⟩] hne2 (by omega) (by decide) ⟨fun _ => rfl, fun _ => rfl⟩
        have hz := eq_true (fm3 (allOfF (litsAt 0 r) []))
        rw [show allOfF (litsAt 0 r) [⟨1, 0, 0⟩] = allOfF (litsAt 0 r) [] from rfl] at ha
        generalize ((rows.take k).flatMap fun r => allOfF (litsAt 0 r) []).map fE = rw0 at h44 hs hflen
        generalize allOfF (litsAt 0 r) [] = R at *
        simp only [fL, List.map_cons, List.map_nil] at ha hli
        repeat' first | refine c_seq ?_ | refine c_block ?_ | refine c_reg' rfl fun K E hK hE => ?_ | (refine r_opN fun κ η => ?_; simp only [go_sem, Nat.reduceLT, Nat.reduceEqDiff, Nat.reduceAdd, Nat.reduceMul, Nat.reduceLeDiff, Nat.le_refl, reduceIte, reduceCtorEq, hr]; (repeat refine ⟨by omega, ?_⟩); refine η _ ?_; clear η κ) | refine q_seq ?_ | refine c_skip ?_
        refine r_opN fun κ η => ?_; simp only [go_sem, Nat.reduceLT, Nat.reduceEqDiff, Nat.reduceAdd, Nat.reduceMul, Nat.reduceLeDiff, Nat.le_refl, reduceIte, reduceCtorEq]; refine ⟨_, hli, ?_⟩; simp only [go_sem, Nat.reduceLT, Nat.reduceEqDiff, Nat.reduceAdd, Nat.reduceMul, Nat.reduceLeDiff, Nat.le_refl, reduceIte, reduceCtorEq]; refine η _ ?_; clear η κ
        repeat' (refine r_opN fun κ η => ?_; simp only [go_sem, Nat.reduceLT, Nat.reduceEqDiff, Nat.reduceAdd, Nat.reduceMul, Nat.reduceLeDiff, Nat.le_refl, reduceIte, reduceCtorEq]; refine η _ ?_; clear η κ)
        refine r_opN fun κ η => ?_; simp only [go_sem, Nat.reduceLT, Nat.reduceEqDiff, Nat.reduceAdd, Nat.reduceMul, Nat.reduceLeDiff, Nat.le_refl, reduceIte, reduceCtorEq]; refine ⟨_, ha, ?_⟩; simp only [go_sem, Nat.reduceLT, Nat.reduceEqDiff, Nat.reduceAdd, Nat.reduceMul, Nat.reduceLeDiff, Nat.le_refl, reduceIte, reduceCtorEq]; refine η _ ?_; clear η κ
        repeat' first | refine c_reg' rfl fun K E hK hE => ?_ | (refine r_opN fun κ η => ?_; simp only [go_sem, Nat.reduceLT, Nat.reduceEqDiff, Nat.reduceAdd, Nat.reduceMul, Nat.reduceLeDiff, Nat.le_refl, reduceIte, reduceCtorEq, h44, hz]; (repeat refine ⟨by omega, ?_⟩); refine η _ ?_; clear η κ) | (refine r_nil (hK _ ?_); clear hE hK E K) | refine q_seq ?_ | refine q_blk ?_ | refine q_lpN ?_
        exact ⟨rows.length - (k + 1), by omega, k + 1, rfl, by omega, _, _, _, nf_of rfl ⟨rfl, rfl, rfl, trivial⟩ trivial, by rw [hs]; rfl⟩
      · simp only [decide_eq_false_iff_not] at hq
        rw [List.take_of_length_le (by omega)] at h44
        have hz := fm3 (⟨4, 0, rows.length⟩ :: rows.flatMap fun r => allOfF (litsAt 0 r) [])
        have h44 : G0 44 = ⟨q, .row 58 3 ((⟨4, 0, rows.length⟩ :: rows.flatMap fun r => allOfF (litsAt 0 r) []).map fun (f : Fm) => [T.i .i64 f.k, T.i .i64 f.lit, T.i .i64 f.kids])⟩ := h44
        repeat' first | refine c_seq ?_ | refine c_reg' rfl fun K E hK hE => ?_ | (refine r_opN fun κ η => ?_; simp only [go_sem, Nat.reduceLT, Nat.reduceEqDiff, Nat.reduceAdd, Nat.reduceMul, Nat.reduceLeDiff, Nat.le_refl, reduceIte, reduceCtorEq, h44]; refine η _ ?_; clear η κ) | (refine r_nil (hK _ ?_); clear hE hK E K) | refine q_seq ?_ | refine c_exit ?_ | refine c_ret ?_ | refine q_seqE ?_ | refine q_blkHit ?_ | refine q_lpE ?_ | refine q_seqR ?_ | (refine q_ret ?_; refine q_r1 ?_; simp only [go_sem, Nat.reduceLT, Nat.reduceEqDiff, Nat.reduceAdd, Nat.reduceMul, Nat.reduceLeDiff, Nat.le_refl, reduceIte, reduceCtorEq, h44])
        rfl
    · have hbe := hmb.1 (by omega)
      rw [hbe, if_pos (by show 1 < rows.countP (hadB y); omega)]
      have hb' : ((rows.countP (hadB y) : Int) < 2) = False := eq_false (by omega)
      clear hmb hbe hc hcn2 hany
      obtain ⟨m1, m2⟩ := mz_sel rows y hyc
      have hsc := selR_count rows y
      have l1 := factF_len d ((selR y true rows).map fun r => r.set y.p 45)
      have l2 := factF_len d (selR y false rows)
      rw [List.length_map] at l1
      have d1 : ∀ r ∈ (selR y true rows).map fun r => r.set y.p 45, r.length = n := fun r hr => by
        obtain ⟨r1, h1, rfl⟩ := List.mem_map.1 hr
        rw [List.length_set]
        exact hn r1 (List.mem_filter.1 h1).1
      have f1 := ih ((selR y true rows).map fun r => r.set y.p 45) (by rw [List.length_map]; omega) (by omega) (by rw [List.length_map]; omega) d1 (fun r hr => by
        obtain ⟨r1, h1, rfl⟩ := List.mem_map.1 hr
        exact okS_set (hok r1 (List.mem_filter.1 h1).1))
      have f2 := ih (selR y false rows) (by omega) (by omega) (by omega) (fun r hr => hn r (List.mem_filter.1 hr).1) (fun r hr => hok r (List.mem_filter.1 hr).1)
      have i1 := factF_is n d ((selR y true rows).map fun r => r.set y.p 45) (by rw [List.length_map]; omega) d1
      have hdv := hdv (selR y true rows) (by omega) (fun r hr => hn r (List.mem_filter.1 hr).1)
      have ha := rand_ct Hy [y] (factF d ((selR y true rows).map fun r => r.set y.p 45)) (by simp) (by show 1 ≤ 1000000; decide) (by omega) (tru_is i1)
      have hal := allOfF_len [y] (factF d ((selR y true rows).map fun r => r.set y.p 45))
      clear ih i1 d1
      generalize factF d ((selR y true rows).map fun r => r.set y.p 45) = R1 at *
      generalize factF d (selR y false rows) = R2 at *
      have hz1 := eq_true (fm3 (allOfF [y] R1))
      have hz2 := eq_true (fm3 R2)
      generalize allOfF [y] R1 = A1 at *
      have hal : A1.length ≤ 1 + 1 + R1.length := hal
      refine c_cond _ rfl (fun hq => (by cases hq)) (fun hq => ?_)
      repeat' first | refine c_seq ?_ | refine c_reg' rfl fun K E hK hE => ?_ | (refine r_opN fun κ η => ?_; simp only [go_sem, Nat.reduceLT, Nat.reduceEqDiff, Nat.reduceAdd, Nat.reduceMul, Nat.reduceLeDiff, Nat.le_refl, reduceIte, reduceCtorEq]; refine η _ ?_; clear η κ) | refine q_seq ?_ | refine c_skip ?_
      refine r_opN fun κ η => ?_; simp only [go_sem, Nat.reduceLT, Nat.reduceEqDiff, Nat.reduceAdd, Nat.reduceMul, Nat.reduceLeDiff, Nat.le_refl, reduceIte, reduceCtorEq]; refine ⟨_, hmo, ?_⟩; simp only [go_sem, Nat.reduceLT, Nat.reduceEqDiff, Nat.reduceAdd, Nat.reduceMul, Nat.reduceLeDiff, Nat.le_refl, reduceIte, reduceCtorEq]; refine η _ ?_; clear η κ
      repeat' first | refine c_seq ?_ | refine c_reg' rfl fun K E hK hE => ?_ | (refine r_opN fun κ η => ?_; simp only [go_sem, Nat.reduceLT, Nat.reduceEqDiff, Nat.reduceAdd, Nat.reduceMul, Nat.reduceLeDiff, Nat.le_refl, reduceIte, reduceCtorEq]; refine η _ ?_; clear η κ) | (refine r_nil (hK _ ?_); clear hE hK E K) | refine q_seq ?_
      refine r_opN fun κ η => ?_; simp only [go_sem, Nat.reduceLT, Nat.reduceEqDiff, Nat.reduceAdd, Nat.reduceMul, Nat.reduceLeDiff, Nat.le_refl, reduceIte, reduceCtorEq]; refine ⟨_, hma, ?_⟩; simp only [go_sem, Nat.reduceLT, Nat.reduceEqDiff, Nat.reduceAdd, Nat.reduceMul, Nat.reduceLeDiff, Nat.le_refl, reduceIte, reduceCtorEq]; refine η _ ?_; clear η κ
      repeat' first | (refine r_opN fun κ η => ?_; simp only [go_sem, Nat.reduceLT, Nat.reduceEqDiff, Nat.reduceAdd, Nat.reduceMul, Nat.reduceLeDiff, Nat.le_refl, reduceIte, reduceCtorEq, hb']; refine η _ ?_; clear η κ) | (refine r_nil (hK _ ?_); clear hE hK E K) | refine q_seq ?_
      refine c_cond _ rfl (fun hq => (by cases hq)) (fun hq => ?_)
      repeat' first | refine c_seq ?_ | refine c_block ?_ | refine c_reg' rfl fun K E hK hE => ?_ | (refine r_opN fun κ η => ?_; simp only [go_sem, Nat.reduceLT, Nat.reduceEqDiff, Nat.reduceAdd, Nat.reduceMul, Nat.reduceLeDiff, Nat.le_refl, reduceIte, reduceCtorEq]; refine η _ ?_; clear η κ) | (refine r_nil (hK _ ?_); clear hE hK E K) | refine q_seq ?_ | refine c_skip ?_
      refine c_loop (fun m s' => ∃ k : Nat, m = rows.length - k ∧ k ≤ rows.length ∧ ∃ F G0 q x8 x9, s' = nf 110 F G0 [(0, .t (rL rows)), (5, .t (.s (mk by_))), (6, .row 44 q), (8, x8), (9, x9), (10, .t (.i .i64 k))] [] ∧ G0 44 = ⟨q, .row 58 3 [[.i .i64 4, .i .i64 0, .i .i64 2]]⟩ ∧ Acc G0 89 9 1 ((selR y true (rows.take k)).map fun r => [.s (mk r)]) x8 ∧ Acc G0 96 9 1 ((selR y false (rows.take k)).map fun r => [.s (mk r)]) x9) rows.length ?_ ?_
      · exact ⟨0, by omega, by omega, _, _, _, _, _, nf_of rfl ⟨rfl, rfl, rfl, rfl, rfl, rfl, trivial⟩ trivial, rfl, .inl ⟨rfl, rfl⟩, .inl ⟨rfl, rfl⟩⟩
      rintro m s' ⟨k, rfl, hk, F, G0, q, x8, x9, rfl, h44, h8, h9⟩
      simp only [rL]
      repeat' first | refine c_seq ?_ | refine c_reg' rfl fun K E hK hE => ?_ | (refine r_opN fun κ η => ?_; simp only [go_sem, Nat.reduceLT, Nat.reduceEqDiff, Nat.reduceAdd, Nat.reduceMul, Nat.reduceLeDiff, Nat.le_refl, reduceIte, reduceCtorEq]; refine η _ ?_; clear η κ) | (refine r_nil (hK _ ?_); clear hE hK E K) | refine q_seq ?_
      refine c_cond _ rfl (fun hq => ?_) (fun hq => ?_)
      · simp only [decide_eq_true_eq] at hq
        obtain ⟨r, hr⟩ : ∃ r, rows[k]? = some r := ⟨_, List.getElem?_eq_getElem (by omega)⟩
        have hrm := List.mem_of_getElem? hr
        have hhr := hha r hrm
        have t1 := selR_take (x := y) (b := true) hr
        have t2 := selR_take (x := y) (b := false) hr
        have b1 : ((selR y true (rows.take k)).map fun r => [T.s (mk r)]).length ≤ 1000000 := by
          rw [List.length_map]; unfold selR; have := List.length_filter_le (fun r => hadB y r == true) (rows.take k); rw [List.length_take] at this; omega
        have b2 : ((selR y false (rows.take k)).map fun r => [T.s (mk r)]).length ≤ 1000000 := by
          rw [List.length_map]; unfold selR; have := List.length_filter_le (fun r => hadB y r == false) (rows.take k); rw [List.length_take] at this; omega
        repeat' first | refine c_seq ?_ | refine c_block ?_ | refine c_reg' rfl fun K E hK hE => ?_ | (refine r_opN fun κ η => ?_; simp only [go_sem, Nat.reduceLT, Nat.reduceEqDiff, Nat.reduceAdd, Nat.reduceMul, Nat.reduceLeDiff, Nat.le_refl, reduceIte, reduceCtorEq, hr]; (repeat refine ⟨by omega, ?_⟩); refine η _ ?_; clear η κ) | refine q_seq ?_ | refine c_skip ?_
        refine r_opN fun κ η => ?_; simp only [go_sem, Nat.reduceLT, Nat.reduceEqDiff, Nat.reduceAdd, Nat.reduceMul, Nat.reduceLeDiff, Nat.le_refl, reduceIte, reduceCtorEq]; refine ⟨_, hhr, ?_⟩; simp only [go_sem, Nat.reduceLT, Nat.reduceEqDiff, Nat.reduceAdd, Nat.reduceMul, Nat.reduceLeDiff, Nat.le_refl, reduceIte, reduceCtorEq]; refine η _ ?_; clear η κ
        repeat' first | (refine r_nil (hK _ ?_); clear hE hK E K) | refine q_seq ?_
        cases hv : hadB y r with
        | true =>
          rw [hv] at t1 t2
          rw [if_pos rfl] at t1
          rw [if_neg (by decide), List.append_nil] at t2
          rw [← t2] at h9
          have hs : (selR y true (rows.take (k + 1))).map (fun r => [T.s (mk r)]) = (selR y true (rows.take k)).map (fun r => [T.s (mk r)]) ++ [[.s (mk r)]] := by rw [t1, List.map_append]; rfl
          generalize (selR y true (rows.take k)).map (fun r => [T.s (mk r)]) = w at h8 hs b1
          refine c_cond _ rfl (fun hq => ?_) (fun hq => (by cases hq))
          rcases h8 with ⟨rfl, rfl⟩ | ⟨q8, rfl, h8⟩
          · repeat' first | refine c_reg' rfl fun K E hK hE => ?_ | (refine r_opN fun κ η => ?_; simp only [go_sem, Nat.reduceLT, Nat.reduceEqDiff, Nat.reduceAdd, Nat.reduceMul, Nat.reduceLeDiff, Nat.le_refl, reduceIte, reduceCtorEq, hr]; (repeat refine ⟨by omega, ?_⟩); refine η _ ?_; clear η κ) | (refine r_nil (hK _ ?_); clear hE hK E K) | refine q_seq ?_ | refine q_blk ?_ | refine q_lpN ?_
            exact ⟨rows.length - (k + 1), by omega, k + 1, rfl, by omega, _, _, _, _, _, nf_of rfl ⟨rfl, rfl, rfl, rfl, rfl, rfl, trivial⟩ trivial, h44, .inr ⟨_, rfl, by rw [hs]; rfl⟩, h9⟩
          · repeat' first | refine c_reg' rfl fun K E hK hE => ?_ | (refine r_opN fun κ η => ?_; simp only [go_sem, Nat.reduceLT, Nat.reduceEqDiff, Nat.reduceAdd, Nat.reduceMul, Nat.reduceLeDiff, Nat.le_refl, reduceIte, reduceCtorEq, hr, h8]; (repeat refine ⟨by omega, ?_⟩); refine η _ ?_; clear η κ) | (refine r_nil (hK _ ?_); clear hE hK E K) | refine q_seq ?_ | refine q_blk ?_ | refine q_lpN ?_
            exact ⟨rows.length - (k + 1), by omega, k + 1, rfl, by omega, _, _, _, _, _, nf_of rfl ⟨rfl, rfl, rfl, rfl, rfl, rfl, trivial⟩ trivial, h44, .inr ⟨_, rfl, by rw [hs]; rfl⟩, h9⟩
        | false =>
          rw [hv] at t1 t2
          rw [if_pos rfl] at t2
          rw [if_neg (by decide), List.append_nil] at t1
          rw [← t1] at h8
          have hs : (selR y false (rows.take (k + 1))).map (fun r => [T.s (mk r)]) = (selR y false (rows.take k)).map (fun r => [T.s (mk r)]) ++ [[.s (mk r)]] := by rw [t2, List.map_append]; rfl
          generalize (selR y false (rows.take k)).map (fun r => [T.s (mk r)]) = w at h9 hs b2
          refine c_cond _ rfl (fun hq => (by cases hq)) (fun hq => ?_)
          rcases h9 with ⟨rfl, rfl⟩ | ⟨q9, rfl, h9⟩
          · repeat' first | refine c_reg' rfl fun K E hK hE => ?_ | (refine r_opN fun κ η => ?_; simp only [go_sem, Nat.reduceLT, Nat.reduceEqDiff, Nat.reduceAdd, Nat.reduceMul, Nat.reduceLeDiff, Nat.le_refl, reduceIte, reduceCtorEq, hr]; (repeat refine ⟨by omega, ?_⟩); refine η _ ?_; clear η κ) | (refine r_nil (hK _ ?_); clear hE hK E K) | refine q_seq ?_ | refine q_blk ?_ | refine q_lpN ?_
            exact ⟨rows.length - (k + 1), by omega, k + 1, rfl, by omega, _, _, _, _, _, nf_of rfl ⟨rfl, rfl, rfl, rfl, rfl, rfl, trivial⟩ trivial, h44, h8, .inr ⟨_, rfl, by rw [hs]; rfl⟩⟩
          · repeat' first | refine c_reg' rfl fun K E hK hE => ?_ | (refine r_opN fun κ η => ?_; simp only [go_sem, Nat.reduceLT, Nat.reduceEqDiff, Nat.reduceAdd, Nat.reduceMul, Nat.reduceLeDiff, Nat.le_refl, reduceIte, reduceCtorEq, hr, h9]; (repeat refine ⟨by omega, ?_⟩); refine η _ ?_; clear η κ) | (refine r_nil (hK _ ?_); clear hE hK E K) | refine q_seq ?_ | refine q_blk ?_ | refine q_lpN ?_
            exact ⟨rows.length - (k + 1), by omega, k + 1, rfl, by omega, _, _, _, _, _, nf_of rfl ⟨rfl, rfl, rfl, rfl, rfl, rfl, trivial⟩ trivial, h44, h8, .inr ⟨_, rfl, by rw [hs]; rfl⟩⟩
      · simp only [decide_eq_false_iff_not] at hq
        rw [List.take_of_length_le (by omega)] at h8 h9
        have hs1 := strs1 (selR y true rows)
        have hs2 := strs1 (selR y false rows)
        have hw8 : (selR y true rows).map (fun r => [T.s (mk r)]) ≠ [] := fun e => by
          have := List.map_eq_nil_iff.1 e
          rw [this] at hsc
          simp only [List.length_nil] at hsc
          omega
        simp only [rL, fL, List.map_cons, List.map_nil] at hdv f1 f2 ha hlS ⊢
        generalize (selR y true rows).map (fun r => [T.s (mk r)]) = w8 at *
        generalize (selR y false rows).map (fun r => [T.s (mk r)]) = w9 at *
        rcases h8 with ⟨e, _⟩ | ⟨q8, rfl, h8⟩
        · exact absurd e hw8
        rcases h9 with ⟨rfl, rfl⟩ | ⟨q9, rfl, h9⟩
        · repeat' first | refine c_seq ?_ | refine c_reg' rfl fun K E hK hE => ?_ | (refine r_opN fun κ η => ?_; simp only [go_sem, Nat.reduceLT, Nat.reduceEqDiff, Nat.reduceAdd, Nat.reduceMul, Nat.reduceLeDiff, Nat.le_refl, reduceIte, reduceCtorEq]; refine η _ ?_; clear η κ) | refine q_seq ?_ | refine c_exit ?_ | refine q_seqE ?_ | refine q_blkHit ?_ | refine q_lpE ?_
          refine r_opN fun κ η => ?_; simp only [go_sem, Nat.reduceLT, Nat.reduceEqDiff, Nat.reduceAdd, Nat.reduceMul, Nat.reduceLeDiff, Nat.le_refl, reduceIte, reduceCtorEq]; refine ⟨_, hlS, ?_⟩; simp only [go_sem, Nat.reduceLT, Nat.reduceEqDiff, Nat.reduceAdd, Nat.reduceMul, Nat.reduceLeDiff, Nat.le_refl, reduceIte, reduceCtorEq]; refine η _ ?_; clear η κ
          repeat' (refine r_opN fun κ η => ?_; simp only [go_sem, Nat.reduceLT, Nat.reduceEqDiff, Nat.reduceAdd, Nat.reduceMul, Nat.reduceLeDiff, Nat.le_refl, reduceIte, reduceCtorEq, h8]; refine η _ ?_; clear η κ)
          refine r_opN fun κ η => ?_; simp only [go_sem, Nat.reduceLT, Nat.reduceEqDiff, Nat.reduceAdd, Nat.reduceMul, Nat.reduceLeDiff, Nat.le_refl, reduceIte, reduceCtorEq, h8]; refine ⟨_, hdv, ?_⟩; simp only [go_sem, Nat.reduceLT, Nat.reduceEqDiff, Nat.reduceAdd, Nat.reduceMul, Nat.reduceLeDiff, Nat.le_refl, reduceIte, reduceCtorEq, h8]; refine η _ ?_; clear η κ
          refine r_opN fun κ η => ?_; simp only [go_sem, Nat.reduceLT, Nat.reduceEqDiff, Nat.reduceAdd, Nat.reduceMul, Nat.reduceLeDiff, Nat.le_refl, reduceIte, reduceCtorEq]; refine ⟨_, f1, ?_⟩; simp only [go_sem, Nat.reduceLT, Nat.reduceEqDiff, Nat.reduceAdd, Nat.reduceMul, Nat.reduceLeDiff, Nat.le_refl, reduceIte, reduceCtorEq]; refine η _ ?_; clear η κ
          refine r_opN fun κ η => ?_; simp only [go_sem, Nat.reduceLT, Nat.reduceEqDiff, Nat.reduceAdd, Nat.reduceMul, Nat.reduceLeDiff, Nat.le_refl, reduceIte, reduceCtorEq]; refine ⟨_, ha, ?_⟩; simp only [go_sem, Nat.reduceLT, Nat.reduceEqDiff, Nat.reduceAdd, Nat.reduceMul, Nat.reduceLeDiff, Nat.le_refl, reduceIte, reduceCtorEq]; refine η _ ?_; clear η κ
          repeat' first | refine c_seq ?_ | refine c_reg' rfl fun K E hK hE => ?_ | (refine r_opN fun κ η => ?_; simp only [go_sem, Nat.reduceLT, Nat.reduceEqDiff, Nat.reduceAdd, Nat.reduceMul, Nat.reduceLeDiff, Nat.le_refl, reduceIte, reduceCtorEq, h44, hz1]; (repeat refine ⟨by omega, ?_⟩); refine η _ ?_; clear η κ) | (refine r_nil (hK _ ?_); clear hE hK E K) | refine q_seq ?_
          refine r_opN fun κ η => ?_; simp only [go_sem, Nat.reduceLT, Nat.reduceEqDiff, Nat.reduceAdd, Nat.reduceMul, Nat.reduceLeDiff, Nat.le_refl, reduceIte, reduceCtorEq]; refine ⟨_, f2, ?_⟩; simp only [go_sem, Nat.reduceLT, Nat.reduceEqDiff, Nat.reduceAdd, Nat.reduceMul, Nat.reduceLeDiff, Nat.le_refl, reduceIte, reduceCtorEq]; refine η _ ?_; clear η κ
          repeat' first | (refine r_opN fun κ η => ?_; simp only [go_sem, Nat.reduceLT, Nat.reduceEqDiff, Nat.reduceAdd, Nat.reduceMul, Nat.reduceLeDiff, Nat.le_refl, reduceIte, reduceCtorEq, hz2]; (repeat refine ⟨by omega, ?_⟩); refine η _ ?_; clear η κ) | (refine r_nil (hK _ ?_); clear hE hK E K) | refine q_seq ?_ | refine c_ret ?_ | (refine q_ret ?_; refine q_r1 ?_; simp only [go_sem, Nat.reduceLT, Nat.reduceEqDiff, Nat.reduceAdd, Nat.reduceMul, Nat.reduceLeDiff, Nat.le_refl, reduceIte, reduceCtorEq, hz2])
          simp
        · repeat' first | refine c_seq ?_ | refine c_reg' rfl fun K E hK hE => ?_ | (refine r_opN fun κ η => ?_; simp only [go_sem, Nat.reduceLT, Nat.reduceEqDiff, Nat.reduceAdd, Nat.reduceMul, Nat.reduceLeDiff, Nat.le_refl, reduceIte, reduceCtorEq]; refine η _ ?_; clear η κ) | refine q_seq ?_ | refine c_exit ?_ | refine q_seqE ?_ | refine q_blkHit ?_ | refine q_lpE ?_
          refine r_opN fun κ η => ?_; simp only [go_sem, Nat.reduceLT, Nat.reduceEqDiff, Nat.reduceAdd, Nat.reduceMul, Nat.reduceLeDiff, Nat.le_refl, reduceIte, reduceCtorEq]; refine ⟨_, hlS, ?_⟩; simp only [go_sem, Nat.reduceLT, Nat.reduceEqDiff, Nat.reduceAdd, Nat.reduceMul, Nat.reduceLeDiff, Nat.le_refl, reduceIte, reduceCtorEq]; refine η _ ?_; clear η κ
          repeat' (refine r_opN fun κ η => ?_; simp only [go_sem, Nat.reduceLT, Nat.reduceEqDiff, Nat.reduceAdd, Nat.reduceMul, Nat.reduceLeDiff, Nat.le_refl, reduceIte, reduceCtorEq, h8]; refine η _ ?_; clear η κ)
          refine r_opN fun κ η => ?_; simp only [go_sem, Nat.reduceLT, Nat.reduceEqDiff, Nat.reduceAdd, Nat.reduceMul, Nat.reduceLeDiff, Nat.le_refl, reduceIte, reduceCtorEq, h8]; refine ⟨_, hdv, ?_⟩; simp only [go_sem, Nat.reduceLT, Nat.reduceEqDiff, Nat.reduceAdd, Nat.reduceMul, Nat.reduceLeDiff, Nat.le_refl, reduceIte, reduceCtorEq, h8]; refine η _ ?_; clear η κ
          refine r_opN fun κ η => ?_; simp only [go_sem, Nat.reduceLT, Nat.reduceEqDiff, Nat.reduceAdd, Nat.reduceMul, Nat.reduceLeDiff, Nat.le_refl, reduceIte, reduceCtorEq]; refine ⟨_, f1, ?_⟩; simp only [go_sem, Nat.reduceLT, Nat.reduceEqDiff, Nat.reduceAdd, Nat.reduceMul, Nat.reduceLeDiff, Nat.le_refl, reduceIte, reduceCtorEq]; refine η _ ?_; clear η κ
          refine r_opN fun κ η => ?_; simp only [go_sem, Nat.reduceLT, Nat.reduceEqDiff, Nat.reduceAdd, Nat.reduceMul, Nat.reduceLeDiff, Nat.le_refl, reduceIte, reduceCtorEq]; refine ⟨_, ha, ?_⟩; simp only [go_sem, Nat.reduceLT, Nat.reduceEqDiff, Nat.reduceAdd, Nat.reduceMul, Nat.reduceLeDiff, Nat.le_refl, reduceIte, reduceCtorEq]; refine η _ ?_; clear η κ
          repeat' first | refine c_seq ?_ | refine c_reg' rfl fun K E hK hE => ?_ | (refine r_opN fun κ η => ?_; simp only [go_sem, Nat.reduceLT, Nat.reduceEqDiff, Nat.reduceAdd, Nat.reduceMul, Nat.reduceLeDiff, Nat.le_refl, reduceIte, reduceCtorEq, h44, hz1]; (repeat refine ⟨by omega, ?_⟩); refine η _ ?_; clear η κ) | (refine r_nil (hK _ ?_); clear hE hK E K) | refine q_seq ?_
          refine r_opN fun κ η => ?_; simp only [go_sem, Nat.reduceLT, Nat.reduceEqDiff, Nat.reduceAdd, Nat.reduceMul, Nat.reduceLeDiff, Nat.le_refl, reduceIte, reduceCtorEq, h9]; refine ⟨_, f2, ?_⟩; simp only [go_sem, Nat.reduceLT, Nat.reduceEqDiff, Nat.reduceAdd, Nat.reduceMul, Nat.reduceLeDiff, Nat.le_refl, reduceIte, reduceCtorEq, h9]; refine η _ ?_; clear η κ
          repeat' first | (refine r_opN fun κ η => ?_; simp only [go_sem, Nat.reduceLT, Nat.reduceEqDiff, Nat.reduceAdd, Nat.reduceMul, Nat.reduceLeDiff, Nat.le_refl, reduceIte, reduceCtorEq, hz2]; (repeat refine ⟨by omega, ?_⟩); refine η _ ?_; clear η κ) | (refine r_nil (hK _ ?_); clear hE hK E K) | refine q_seq ?_ | refine c_ret ?_ | (refine q_ret ?_; refine q_r1 ?_; simp only [go_sem, Nat.reduceLT, Nat.reduceEqDiff, Nat.reduceAdd, Nat.reduceMul, Nat.reduceLeDiff, Nat.le_refl, reduceIte, reduceCtorEq, hz2])
          simp
end Go.Proofs.YtfflfmpkjcomgaaDoor
