import Derived.Test.YtfflfmpkjcomgaaDoorK11
namespace Go.Proofs.YtfflfmpkjcomgaaDoor
open Go.RowKit
set_option maxRecDepth 100000
set_option linter.unusedSimpArgs false
variable (Hy : World → Prop)
attribute [local irreducible] runM runD cwp seqQ blkQ lpQ retQ asQ bdQ bdY retP endR preD retD
def two (i : Nat) : List Li := [⟨i, 49⟩, ⟨i, 48⟩]
def cands (n : Nat) : List Li := (List.range n).flatMap two
theorem cands_succ (n : Nat) : cands (n + 1) = cands n ++ two n := by
  unfold cands
  rw [List.range_succ, List.flatMap_append]
  simp
def stepB (rows : List Row) (a : Li × Nat) (x : Li) : Li × Nat := if a.2 < rows.countP (hadB x) then (x, rows.countP (hadB x)) else a
def bestF (rows : List Row) (l : List Li) : Li × Nat := l.foldl (stepB rows) (⟨0, 0⟩, 1)
theorem bestF_add (rows : List Row) (l : List Li) (x : Li) : bestF rows (l ++ [x]) = stepB rows (bestF rows l) x := by
  unfold bestF
  rw [List.foldl_append]
  rfl
theorem stepB_le {rows : List Row} {a : Li × Nat} (h : a.2 ≤ rows.length + 1) (x : Li) : (stepB rows a x).2 ≤ rows.length + 1 := by
  unfold stepB
  have := List.countP_le_length (p := hadB x) (l := rows)
  split
  · show rows.countP (hadB x) ≤ _; omega
  · exact h
theorem bestF_le (rows : List Row) (l : List Li) : (bestF rows l).2 ≤ rows.length + 1 := by
  unfold bestF
  have key : ∀ (l : List Li) (a : Li × Nat), a.2 ≤ rows.length + 1 → (l.foldl (stepB rows) a).2 ≤ rows.length + 1 := fun l => by
    induction l with
    | nil => exact fun a h => h
    | cons x l ih => exact fun a h => ih _ (stepB_le h x)
  exact key l _ (by show 1 ≤ _; omega)
theorem cntW_true (rows : List Row) (x : Li) : cntW rows x true rows.length = rows.countP (hadB x) := by
  unfold cntW
  rw [List.take_length]
  congr 1
  funext r
  cases hadB x r <;> rfl
set_option maxHeartbeats 8000000 in
theorem mostHad_ct (rows : List Row) (hne : rows ≠ []) (hl : rows.length ≤ 1000000) (n : Nat) (hn : ∀ r ∈ rows, r.length = n) (hn2 : n ≤ 1000000) : Ct Tryd.prog Hy 52 [rL rows] [.ag (lE (bestF rows (cands n)).1), .b (decide (1 < (bestF rows (cands n)).2))] := by
  obtain ⟨r0, rs, hrows⟩ := List.exists_cons_of_ne_nil hne
  have h0 : rows[0]? = some r0 := by rw [hrows]; rfl
  have hr0 := hn r0 (List.mem_of_getElem? h0)
  clear hrows rs hne
  refine ct_of (cls := _root_.id) tt_ok follows_ Tryd.func52 rfl (by decide) (Nat.le_of_ble_eq_true rfl) ?_
  rw [show Tryd.f52.ntmps = 44 from rfl, s0_nf]
  simp only [List.zipIdx_cons, List.zipIdx_nil, List.map_cons, List.map_nil, Nat.reduceAdd, rL]
  repeat' first | refine c_seq ?_ | refine c_block ?_ | refine c_reg' rfl fun K E hK hE => ?_ | (refine r_opN fun κ η => ?_; simp only [go_sem, Nat.reduceLT, Nat.reduceEqDiff, Nat.reduceAdd, Nat.reduceMul, Nat.reduceLeDiff, Nat.le_refl, reduceIte, reduceCtorEq, h0, mk_size, hr0]; (repeat refine ⟨by omega, ?_⟩); refine η _ ?_; clear η κ) | (refine r_nil (hK _ ?_); clear hE hK E K) | refine q_seq ?_
  refine c_loop (fun m s' => ∃ i : Nat, m = n - i ∧ i ≤ n ∧ ∃ F G0, s' = nf 44 F G0 [(0, .t (rL rows)), (2, .ptr 2 1 0), (4, .ptr 4 1 0), (5, .t (.i .i64 (bestF rows (cands i)).2)), (13, .t (.i .i64 n)), (14, .t (.i .i64 i))] [] ∧ G0 2 = ⟨1, .cells 86 [.t (.i .i64 0), .t (.i .i64 0)]⟩ ∧ G0 4 = ⟨1, .cells 86 [.t (.i .i64 (bestF rows (cands i)).1.p), .t (.i .i64 (bestF rows (cands i)).1.c.toNat)]⟩) n ?_ ?_
  · exact ⟨0, by omega, by omega, _, _, nf_of rfl ⟨rfl, rfl, rfl, rfl, rfl, rfl, trivial⟩ trivial, rfl, rfl⟩
  rintro m s' ⟨i, rfl, hi, F, G0, rfl, g2, g4⟩
  simp only [rL]
  repeat' first | refine c_seq ?_ | refine c_reg' rfl fun K E hK hE => ?_ | (refine r_opN fun κ η => ?_; simp only [go_sem, Nat.reduceLT, Nat.reduceEqDiff, Nat.reduceAdd, Nat.reduceMul, Nat.reduceLeDiff, Nat.le_refl, reduceIte, reduceCtorEq]; refine η _ ?_; clear η κ) | (refine r_nil (hK _ ?_); clear hE hK E K) | refine q_seq ?_
  refine c_cond _ rfl (fun hq => ?_) (fun hq => ?_)
  · simp only [decide_eq_true_eq] at hq
    have hxl : ∀ (c : UInt8) (r : Row), r ∈ rows → (⟨i, c⟩ : Li).p < r.length := fun c r hr => by rw [hn r hr]; show i < n; omega
    repeat' first | refine c_seq ?_ | refine c_block ?_ | refine c_reg' rfl fun K E hK hE => ?_ | (refine r_opN fun κ η => ?_; simp only [go_sem, Nat.reduceLT, Nat.reduceEqDiff, Nat.reduceAdd, Nat.reduceMul, Nat.reduceLeDiff, Nat.le_refl, reduceIte, reduceCtorEq]; refine η _ ?_; clear η κ) | (refine r_nil (hK _ ?_); clear hE hK E K) | refine q_seq ?_ | refine c_skip ?_
    refine c_loop (fun m s' => ∃ j : Nat, m = 2 - j ∧ j ≤ 2 ∧ ∃ F G1 q, s' = nf 44 F G1 [(0, .t (rL rows)), (2, .ptr 2 1 0), (4, .ptr 4 1 0), (5, .t (.i .i64 (bestF rows (cands i ++ (two i).take j)).2)), (13, .t (.i .i64 n)), (14, .t (.i .i64 i)), (21, .row 21 q), (22, .t (.i .i64 2)), (23, .t (.i .i64 j))] [] ∧ G1 2 = ⟨1, .cells 86 [.t (.i .i64 0), .t (.i .i64 0)]⟩ ∧ G1 4 = ⟨1, .cells 86 [.t (.i .i64 (bestF rows (cands i ++ (two i).take j)).1.p), .t (.i .i64 (bestF rows (cands i ++ (two i).take j)).1.c.toNat)]⟩ ∧ G1 21 = ⟨q, .row 86 2 [[.i .i64 i, .i .i64 49], [.i .i64 i, .i .i64 48]]⟩) 2 ?_ ?_
    · refine ⟨0, by omega, by omega, ?_⟩
      rw [show cands i ++ (two i).take 0 = cands i by simp]
      exact ⟨_, _, _, nf_of rfl ⟨rfl, rfl, rfl, rfl, rfl, rfl, rfl, rfl, rfl, trivial⟩ trivial, g2, g4, rfl⟩
    clear g2 g4 F G0
    rintro m s' ⟨j, rfl, hj, F, G0, q, rfl, g2, g4, g21⟩
    have hBle := bestF_le rows (cands i ++ (two i).take j)
    have hnext : ∀ x, (two i)[j]? = some x → bestF rows (cands i ++ (two i).take (j + 1)) = stepB rows (bestF rows (cands i ++ (two i).take j)) x := fun x hx => by
      rw [List.take_add_one, hx, Option.toList_some, ← List.append_assoc, bestF_add]
    have hlast : j = 2 → bestF rows (cands i ++ (two i).take j) = bestF rows (cands (i + 1)) := fun e => by
      subst e
      rw [cands_succ]
      rfl
    generalize bestF rows (cands i ++ (two i).take j) = B at *
    obtain ⟨a, best⟩ := B
    simp only at hBle g4
    simp only [rL]
    repeat' first | refine c_seq ?_ | refine c_reg' rfl fun K E hK hE => ?_ | (refine r_opN fun κ η => ?_; simp only [go_sem, Nat.reduceLT, Nat.reduceEqDiff, Nat.reduceAdd, Nat.reduceMul, Nat.reduceLeDiff, Nat.le_refl, reduceIte, reduceCtorEq]; refine η _ ?_; clear η κ) | (refine r_nil (hK _ ?_); clear hE hK E K) | refine q_seq ?_
    refine c_cond _ rfl (fun hq => ?_) (fun hq => ?_)
    · simp only [decide_eq_true_eq] at hq
      obtain ⟨x, hx, hxe, hxl2⟩ : ∃ x, (two i)[j]? = some x ∧ [[T.i .i64 i, T.i .i64 49], [T.i .i64 i, T.i .i64 48]][j]? = some [T.i .i64 x.p, T.i .i64 x.c.toNat] ∧ ∀ r ∈ rows, x.p < r.length := by
        rcases (show j = 0 ∨ j = 1 by omega) with rfl | rfl
        · exact ⟨_, rfl, rfl, hxl 49⟩
        · exact ⟨_, rfl, rfl, hxl 48⟩
      have hnx := hnext x hx
      have hhad := fun o => had_cm Hy (o := o) x
      have hcle := List.countP_le_length (p := hadB x) (l := rows)
      repeat' first | refine c_seq ?_ | refine c_block ?_ | refine c_reg' rfl fun K E hK hE => ?_ | (refine r_opN fun κ η => ?_; simp only [go_sem, Nat.reduceLT, Nat.reduceEqDiff, Nat.reduceAdd, Nat.reduceMul, Nat.reduceLeDiff, Nat.le_refl, reduceIte, reduceCtorEq, g21, hxe]; (repeat refine ⟨by omega, ?_⟩); refine η _ ?_; clear η κ) | (refine r_nil (hK _ ?_); clear hE hK E K) | refine q_seq ?_ | refine c_skip ?_
      refine r_call fun κ η => ?_; simp only [go_sem, Nat.reduceLT, Nat.reduceEqDiff, Nat.reduceAdd, Nat.reduceMul, Nat.reduceLeDiff, Nat.le_refl, reduceIte, reduceCtorEq]; refine ⟨_, hhad _, ?_⟩; rintro _ o2 ⟨g, rfl, h1, hF⟩; simp only [go_sem, Nat.reduceLT, Nat.reduceEqDiff, Nat.reduceAdd, Nat.reduceMul, Nat.reduceLeDiff, Nat.le_refl, reduceIte, reduceCtorEq]; refine η _ ?_; clear η κ
      refine r_call fun κ η => ?_; simp only [go_sem, Nat.reduceLT, Nat.reduceEqDiff, Nat.reduceAdd, Nat.reduceMul, Nat.reduceLeDiff, Nat.le_refl, reduceIte, reduceCtorEq]; refine ⟨_, which_cm Hy rows g true, ?_⟩; rintro _ o3 ⟨g1, g2', g3, rfl, h3, h4, h5, hF3⟩; simp only [go_sem, Nat.reduceLT, Nat.reduceEqDiff, Nat.reduceAdd, Nat.reduceMul, Nat.reduceLeDiff, Nat.le_refl, reduceIte, reduceCtorEq]; refine η _ ?_; clear η κ
      repeat' first | refine c_block ?_ | (refine r_nil (hK _ ?_); clear hE hK E K) | refine q_seq ?_
      refine c_rangeY (YW rows x true (CntI o3 rows x true 9 g1 g2' g3 g ((G0 9).gen + 1))) _ rfl (fun lb => which_it Hy hl hxl2 (fun k o h => h.get) CntI.no ?_ lb) (fun args o1 Rb hy => ?_) (fun rs o' hr => ?_)
      · exact ⟨h3, h4, h5, (hF3 6001 (by simp)).trans h1, (hF3 9 (by simp)).trans ((hF 9 (by simp)).trans (by simp [cntW]; rfl)), Fr.refl _ _⟩
      · obtain ⟨k, r, rfl, hrk, hb, hi, hRb⟩ := hy
        refine ⟨rfl, ?_⟩
        have hcn := hi.n
        have hle := cntW_le rows x true k
        simp only [go_sem]
        repeat' refine c_skip ?_
        refine q_as ?_
        repeat' first | refine c_block ?_ | refine c_reg' rfl fun K E hK hE => ?_ | (refine r_opN fun κ η => ?_; simp only [go_sem, Nat.reduceLT, Nat.reduceEqDiff, Nat.reduceAdd, Nat.reduceMul, Nat.reduceLeDiff, Nat.le_refl, reduceIte, reduceCtorEq, hcn]; (repeat refine ⟨by omega, ?_⟩); refine η _ ?_; clear η κ) | (refine r_nil (hK _ ?_); clear hE hK E K) | refine q_blk ?_
        exact q_by (hRb _ (hi.up (by decide) hrk hb rfl (fr_nf (by simp))))
      · obtain ⟨rfl, hr⟩ := hr
        have hcn := hr.n
        rw [cntW_true] at hcn
        have h8 : o' 8 = ⟨(G0 8).gen + 1, .cells 86 [.t (.i .i64 x.p), .t (.i .i64 x.c.toNat)]⟩ := (hr.fr 8 (by simp)).trans ((hF3 8 (by simp)).trans ((hF 8 (by simp)).trans rfl))
        have k2 : o' 2 = ⟨1, .cells 86 [.t (.i .i64 0), .t (.i .i64 0)]⟩ := (hr.fr 2 (by simp)).trans ((hF3 2 (by simp)).trans ((hF 2 (by simp)).trans g2))
        have k4 : o' 4 = ⟨1, .cells 86 [.t (.i .i64 a.p), .t (.i .i64 a.c.toNat)]⟩ := (hr.fr 4 (by simp)).trans ((hF3 4 (by simp)).trans ((hF 4 (by simp)).trans g4))
        have k21 : o' 21 = ⟨q, .row 86 2 [[.i .i64 i, .i .i64 49], [.i .i64 i, .i .i64 48]]⟩ := (hr.fr 21 (by simp)).trans ((hF3 21 (by simp)).trans ((hF 21 (by simp)).trans g21))
        repeat' first | refine c_seq ?_ | refine c_reg' rfl fun K E hK hE => ?_ | (refine r_opN fun κ η => ?_; simp only [go_sem, Nat.reduceLT, Nat.reduceEqDiff, Nat.reduceAdd, Nat.reduceMul, Nat.reduceLeDiff, Nat.le_refl, reduceIte, reduceCtorEq, hcn]; refine η _ ?_; clear η κ) | (refine r_nil (hK _ ?_); clear hE hK E K) | refine q_seq ?_ | refine q_blk ?_
        by_cases cb : (best : Int) < (rows.countP (hadB x) : Nat)
        · have hst : stepB rows (a, best) x = (x, rows.countP (hadB x)) := by unfold stepB; rw [if_pos (by show best < _; omega)]
          refine c_cond _ rfl (fun hq => ?_) (fun hq => (by simp only [decide_eq_false_iff_not] at hq; exact absurd cb hq))
          repeat' first | refine c_reg' rfl fun K E hK hE => ?_ | refine c_draw' rfl (by kernel_rfl) fun K E hK hE => ?_ | ((first | refine r_opN fun κ η => ?_ | refine d_opN (by kernel_rfl) fun κ η => ?_); simp only [go_sem, Nat.reduceLT, Nat.reduceEqDiff, Nat.reduceAdd, Nat.reduceMul, Nat.reduceLeDiff, Nat.le_refl, reduceIte, reduceCtorEq, h8, hcn, k4]; (repeat refine ⟨by omega, ?_⟩); refine η _ ?_; clear η κ) | (refine r_nil (hK _ ?_); clear hE hK E K) | refine q_seq ?_ | (refine d_nil (hK _ ?_); clear hE hK E K) | refine q_blk ?_ | refine q_lpN ?_
          refine ⟨2 - (j + 1), by omega, j + 1, rfl, by omega, ?_⟩
          rw [hnx, hst]
          exact ⟨_, _, _, nf_of rfl ⟨rfl, rfl, rfl, rfl, rfl, rfl, rfl, rfl, rfl, trivial⟩ trivial, k2, rfl, k21⟩
        · have hst : stepB rows (a, best) x = (a, best) := by unfold stepB; rw [if_neg (by show ¬ best < _; omega)]
          refine c_cond _ rfl (fun hq => (by simp only [decide_eq_true_eq] at hq; exact absurd hq cb)) (fun hq => ?_)
          repeat' first | refine c_reg' rfl fun K E hK hE => ?_ | (refine r_opN fun κ η => ?_; simp only [go_sem, Nat.reduceLT, Nat.reduceEqDiff, Nat.reduceAdd, Nat.reduceMul, Nat.reduceLeDiff, Nat.le_refl, reduceIte, reduceCtorEq]; (repeat refine ⟨by omega, ?_⟩); refine η _ ?_; clear η κ) | (refine r_nil (hK _ ?_); clear hE hK E K) | refine q_seq ?_ | refine q_blk ?_ | refine c_skip ?_ | refine q_lpN ?_
          refine ⟨2 - (j + 1), by omega, j + 1, rfl, by omega, ?_⟩
          rw [hnx, hst]
          exact ⟨_, _, _, nf_of rfl ⟨rfl, rfl, rfl, rfl, rfl, rfl, rfl, rfl, rfl, trivial⟩ trivial, k2, k4, k21⟩
    · simp only [decide_eq_false_iff_not] at hq
      have hla := hlast (by omega)
      repeat' first | refine c_reg' rfl fun K E hK hE => ?_ | (refine r_opN fun κ η => ?_; simp only [go_sem, Nat.reduceLT, Nat.reduceEqDiff, Nat.reduceAdd, Nat.reduceMul, Nat.reduceLeDiff, Nat.le_refl, reduceIte, reduceCtorEq]; (repeat refine ⟨by omega, ?_⟩); refine η _ ?_; clear η κ) | (refine r_nil (hK _ ?_); clear hE hK E K) | refine q_seq ?_ | refine q_blk ?_ | refine c_exit ?_ | refine q_seqE ?_ | refine q_blkHit ?_ | refine q_lpE ?_ | refine q_lpN ?_
      refine ⟨n - (i + 1), by omega, i + 1, rfl, by omega, ?_⟩
      rw [← hla]
      exact ⟨_, _, nf_of rfl ⟨rfl, rfl, rfl, rfl, rfl, rfl, trivial⟩ trivial, g2, g4⟩
  · simp only [decide_eq_false_iff_not] at hq
    obtain rfl : i = n := by omega
    repeat' first | refine c_seq ?_ | refine c_reg' rfl fun K E hK hE => ?_ | (refine r_opN fun κ η => ?_; simp only [go_sem, Nat.reduceLT, Nat.reduceEqDiff, Nat.reduceAdd, Nat.reduceMul, Nat.reduceLeDiff, Nat.le_refl, reduceIte, reduceCtorEq, g2, g4]; refine η _ ?_; clear η κ) | (refine r_nil (hK _ ?_); clear hE hK E K) | refine q_seq ?_ | refine c_exit ?_ | refine c_ret ?_ | refine q_seqE ?_ | refine q_blkHit ?_ | refine q_lpE ?_ | (refine q_ret ?_; refine q_rc ?_; simp only [go_sem, Nat.reduceLT, Nat.reduceEqDiff, Nat.reduceAdd, Nat.reduceMul, Nat.reduceLeDiff, Nat.le_refl, reduceIte, reduceCtorEq, g2, g4])
    rw [show decide ((1 : Int) < (bestF rows (cands i)).2) = decide (1 < (bestF rows (cands i)).2) by rw [decide_eq_decide]; omega]
    rfl
end Go.Proofs.YtfflfmpkjcomgaaDoor
