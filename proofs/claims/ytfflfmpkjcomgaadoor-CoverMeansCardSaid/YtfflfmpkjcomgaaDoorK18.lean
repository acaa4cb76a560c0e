import Derived.Test.YtfflfmpkjcomgaaDoorK17
namespace Go.Proofs.YtfflfmpkjcomgaaDoor
open Go.RowKit Go.Lib
set_option maxRecDepth 100000
set_option linter.unusedSimpArgs false
variable (Hy : World → Prop)
attribute [local irreducible] runM runD cwp seqQ blkQ lpQ retQ asQ bdQ bdY retP endR preD retD
theorem mk_eq (a b : Row) : (mk a = mk b) = (a = b) := propext ⟨mk_inj, fun h => by rw [h]⟩
theorem indexS_ct (l : List Row) (a : Row) (h : l.length ≤ 1000000) : Ct Tryd.prog Hy 47 [rL l, .s (mk a)] [.i .i64 (ixI (fun x => decide (a = x)) l)] := by
  refine ct_of (cls := _root_.id) tt_ok follows_ Tryd.func47 rfl (by decide) (Nat.le_of_ble_eq_true rfl) ?_
  rw [show Tryd.f47.ntmps = 19 from rfl, s0_nf]
  simp only [List.zipIdx_cons, List.zipIdx_nil, List.map_cons, List.map_nil, Nat.reduceAdd, rL]
  repeat' first | refine c_seq ?_ | refine c_block ?_ | refine c_reg' rfl fun K E hK hE => ?_ | (refine r_opN fun κ η => ?_; simp only [go_sem, Nat.reduceLT, Nat.reduceEqDiff, Nat.reduceAdd, Nat.reduceMul, Nat.reduceLeDiff, Nat.le_refl, reduceIte, reduceCtorEq]; refine η _ ?_; clear η κ) | (refine r_nil (hK _ ?_); clear hE hK E K) | refine q_seq ?_
  refine c_loop (fun m s' => ∃ k : Nat, m = l.length - k ∧ k ≤ l.length ∧ (∀ (j : Nat) y, j < k → l[j]? = some y → decide (a = y) = false) ∧ ∃ F G0, s' = nf 19 F G0 [(0, .t (rL l)), (1, .t (.s (mk a))), (6, .t (rL l)), (7, .t (.i .i64 l.length)), (8, .t (.i .i64 k))] []) (l.length) ?_ ?_
  · exact ⟨0, by omega, by omega, fun j x hj => absurd hj (Nat.not_lt_zero j), _, _, nf_of rfl ⟨rfl, rfl, rfl, rfl, rfl, trivial⟩ trivial⟩
  rintro m s' ⟨k, rfl, hk, hno, F, G0, rfl⟩
  simp only [rL]
  repeat' first | refine c_seq ?_ | refine c_reg' rfl fun K E hK hE => ?_ | (refine r_opN fun κ η => ?_; simp only [go_sem, Nat.reduceLT, Nat.reduceEqDiff, Nat.reduceAdd, Nat.reduceMul, Nat.reduceLeDiff, Nat.le_refl, reduceIte, reduceCtorEq]; refine η _ ?_; clear η κ) | (refine r_nil (hK _ ?_); clear hE hK E K) | refine q_seq ?_
  refine c_cond _ rfl (fun hq => ?_) (fun hq => ?_)
  · simp only [decide_eq_true_eq] at hq
    obtain ⟨x, hx⟩ : ∃ x, l[k]? = some x := ⟨_, List.getElem?_eq_getElem (by omega)⟩
    repeat' first | refine c_seq ?_ | refine c_block ?_ | refine c_reg' rfl fun K E hK hE => ?_ | (refine r_opN fun κ η => ?_; simp only [go_sem, Nat.reduceLT, Nat.reduceEqDiff, Nat.reduceAdd, Nat.reduceMul, Nat.reduceLeDiff, Nat.le_refl, reduceIte, reduceCtorEq, hx, mk_eq]; (repeat refine ⟨by omega, ?_⟩); refine η _ ?_; clear η κ) | (refine r_nil (hK _ ?_); clear hE hK E K) | refine q_seq ?_ | refine c_skip ?_
    refine c_cond _ rfl (fun hq2 => ?_) (fun hq2 => ?_)
    · repeat' first | refine c_seq ?_ | refine c_reg' rfl fun K E hK hE => ?_ | (refine r_opN fun κ η => ?_; simp only [go_sem, Nat.reduceLT, Nat.reduceEqDiff, Nat.reduceAdd, Nat.reduceMul, Nat.reduceLeDiff, Nat.le_refl, reduceIte, reduceCtorEq]; refine η _ ?_; clear η κ) | (refine r_nil (hK _ ?_); clear hE hK E K) | refine q_seq ?_ | refine c_ret ?_ | refine q_seqR ?_ | refine q_blkR ?_ | refine q_lpR ?_ | (refine q_ret ?_; refine q_r1 ?_; simp only [go_sem, Nat.reduceLT, Nat.reduceEqDiff, Nat.reduceAdd, Nat.reduceMul, Nat.reduceLeDiff, Nat.le_refl, reduceIte, reduceCtorEq])
      rw [ixI_some hx hq2 hno]
    · repeat' first | refine c_reg' rfl fun K E hK hE => ?_ | (refine r_opN fun κ η => ?_; simp only [go_sem, Nat.reduceLT, Nat.reduceEqDiff, Nat.reduceAdd, Nat.reduceMul, Nat.reduceLeDiff, Nat.le_refl, reduceIte, reduceCtorEq]; (repeat refine ⟨by omega, ?_⟩); refine η _ ?_; clear η κ) | (refine r_nil (hK _ ?_); clear hE hK E K) | refine q_seq ?_ | refine q_blk ?_ | refine c_skip ?_ | refine q_lpN ?_
      refine ⟨l.length - (k + 1), by omega, k + 1, rfl, by omega, fun j y hj hy => ?_, _, _, nf_of rfl ⟨rfl, rfl, rfl, rfl, rfl, trivial⟩ trivial⟩
      rcases Nat.lt_or_eq_of_le (Nat.lt_succ_iff.1 hj) with h | rfl
      · exact hno j y h hy
      · rw [hx] at hy; cases hy; exact hq2
  · simp only [decide_eq_false_iff_not] at hq
    repeat' first | refine c_seq ?_ | refine c_reg' rfl fun K E hK hE => ?_ | (refine r_opN fun κ η => ?_; simp only [go_sem, Nat.reduceLT, Nat.reduceEqDiff, Nat.reduceAdd, Nat.reduceMul, Nat.reduceLeDiff, Nat.le_refl, reduceIte, reduceCtorEq]; refine η _ ?_; clear η κ) | (refine r_nil (hK _ ?_); clear hE hK E K) | refine q_seq ?_ | refine c_exit ?_ | refine c_ret ?_ | refine q_seqE ?_ | refine q_blkHit ?_ | refine q_lpE ?_ | (refine q_ret ?_; refine q_r1 ?_; simp only [go_sem, Nat.reduceLT, Nat.reduceEqDiff, Nat.reduceAdd, Nat.reduceMul, Nat.reduceLeDiff, Nat.le_refl, reduceIte, reduceCtorEq])
    rw [ixI_none (fun j y hj hy => hno j y (by omega) hy)]
theorem containsS_ct (l : List Row) (a : Row) (h : l.length ≤ 1000000) : Ct Tryd.prog Hy 26 [rL l, .s (mk a)] [.b (decide (a ∈ l))] := by
  have hi := indexS_ct Hy l a h
  have hb : (l.any fun x => decide (a = x)) = decide (a ∈ l) := by
    rw [Bool.eq_iff_iff, List.any_eq_true, decide_eq_true_eq]
    constructor
    · rintro ⟨x, hx, he⟩
      rw [of_decide_eq_true he]
      exact hx
    · intro h
      exact ⟨a, h, decide_eq_true rfl⟩
  simp only [rL] at hi
  refine ct_of (cls := _root_.id) tt_ok follows_ Tryd.func26 rfl (by decide) (Nat.le_of_ble_eq_true rfl) ?_
  rw [show Tryd.f26.ntmps = 9 from rfl, s0_nf]
  simp only [List.zipIdx_cons, List.zipIdx_nil, List.map_cons, List.map_nil, Nat.reduceAdd, rL]
  repeat' first | refine c_seq ?_ | refine c_reg' rfl fun K E hK hE => ?_ | (refine r_opN fun κ η => ?_; simp only [go_sem, Nat.reduceLT, Nat.reduceEqDiff, Nat.reduceAdd, Nat.reduceMul, Nat.reduceLeDiff, Nat.le_refl, reduceIte, reduceCtorEq]; refine η _ ?_; clear η κ) | (refine r_nil (hK _ ?_); clear hE hK E K) | refine q_seq ?_
  refine r_opN fun κ η => ?_; simp only [go_sem, Nat.reduceLT, Nat.reduceEqDiff, Nat.reduceAdd, Nat.reduceMul, Nat.reduceLeDiff, Nat.le_refl, reduceIte, reduceCtorEq]; refine ⟨_, hi, ?_⟩; simp only [go_sem, Nat.reduceLT, Nat.reduceEqDiff, Nat.reduceAdd, Nat.reduceMul, Nat.reduceLeDiff, Nat.le_refl, reduceIte, reduceCtorEq]; refine η _ ?_; clear η κ
  repeat' first | (refine r_opN fun κ η => ?_; simp only [go_sem, Nat.reduceLT, Nat.reduceEqDiff, Nat.reduceAdd, Nat.reduceMul, Nat.reduceLeDiff, Nat.le_refl, reduceIte, reduceCtorEq, ixI_ge, hb]; refine η _ ?_; clear η κ) | (refine r_nil (hK _ ?_); clear hE hK E K) | refine q_seq ?_ | refine c_ret ?_ | (refine q_ret ?_; refine q_r1 ?_; simp only [go_sem, Nat.reduceLT, Nat.reduceEqDiff, Nat.reduceAdd, Nat.reduceMul, Nat.reduceLeDiff, Nat.le_refl, reduceIte, reduceCtorEq, ixI_ge, hb])
theorem cst_count (r : Row) : (cst r : Int) = r.length - (r.count 45 : Nat) := by
  induction r with
  | nil => rfl
  | cons c r ih =>
    unfold cst at ih ⊢
    rw [List.countP_cons, List.count_cons, List.length_cons]
    by_cases h : c = 45
    · simp [h]; omega
    · have : (c == 45) = false := by simpa using h
      simp [h, this]; omega
theorem cst_le (r : Row) : cst r ≤ r.length := List.countP_le_length
theorem mz_take {rows : List Row} {k : Nat} {r : Row} (h : rows[k]? = some r) : mz (rows.take (k + 1)) = mz (rows.take k) + cst r := by
  unfold mz
  rw [List.take_add_one, h, List.map_append, List.sum_append]
  simp
theorem mz_le {rows : List Row} {m : Nat} (h : ∀ r ∈ rows, r.length ≤ m) : mz rows ≤ rows.length * m := by
  induction rows with
  | nil => simp [mz]
  | cons r rows ih =>
    have h1 := ih fun r hr => h r (List.mem_cons_of_mem _ hr)
    have h2 := h r List.mem_cons_self
    have h3 := cst_le r
    rw [mz_cons, List.length_cons, Nat.add_mul, Nat.one_mul]
    omega
theorem cost_ct (rows : List Row) (hl : rows.length ≤ 1000000) (hn : ∀ r ∈ rows, r.length ≤ 1000000) : Ct Tryd.prog Hy 15 [rL rows] [.i .i64 (mz rows)] := by
  refine ct_of (cls := _root_.id) tt_ok follows_ Tryd.func15 rfl (by decide) (Nat.le_of_ble_eq_true rfl) ?_
  rw [show Tryd.f15.ntmps = 21 from rfl, s0_nf]
  simp only [List.zipIdx_cons, List.zipIdx_nil, List.map_cons, List.map_nil, Nat.reduceAdd, rL]
  repeat' first | refine c_seq ?_ | refine c_block ?_ | refine c_reg' rfl fun K E hK hE => ?_ | (refine r_opN fun κ η => ?_; simp only [go_sem, Nat.reduceLT, Nat.reduceEqDiff, Nat.reduceAdd, Nat.reduceMul, Nat.reduceLeDiff, Nat.le_refl, reduceIte, reduceCtorEq]; refine η _ ?_; clear η κ) | (refine r_nil (hK _ ?_); clear hE hK E K) | refine q_seq ?_
  refine c_loop (fun m s' => ∃ k : Nat, m = rows.length - k ∧ k ≤ rows.length ∧ (True) ∧ ∃ F G0, s' = nf 21 F G0 [(3, .t (.i .i64 (mz (rows.take k)))), (6, .t (rL rows)), (7, .t (.i .i64 rows.length)), (8, .t (.i .i64 k))] []) (rows.length) ?_ ?_
  · exact ⟨0, by omega, by omega, trivial, _, _, nf_of rfl ⟨rfl, rfl, rfl, rfl, trivial⟩ trivial⟩
  rintro m s' ⟨k, rfl, hk, -, F, G0, rfl⟩
  simp only [rL]
  repeat' first | refine c_seq ?_ | refine c_reg' rfl fun K E hK hE => ?_ | (refine r_opN fun κ η => ?_; simp only [go_sem, Nat.reduceLT, Nat.reduceEqDiff, Nat.reduceAdd, Nat.reduceMul, Nat.reduceLeDiff, Nat.le_refl, reduceIte, reduceCtorEq]; refine η _ ?_; clear η κ) | (refine r_nil (hK _ ?_); clear hE hK E K) | refine q_seq ?_
  refine c_cond _ rfl (fun hq => ?_) (fun hq => ?_)
  · simp only [decide_eq_true_eq] at hq
    obtain ⟨r, hr⟩ : ∃ r, rows[k]? = some r := ⟨_, List.getElem?_eq_getElem (by omega)⟩
    have hrn := hn r (List.mem_of_getElem? hr)
    have hct := count_ct Hy r 45
    have hcc := cst_count r
    have hcl := cst_le r
    have hmt := mz_take hr
    have hml : mz (rows.take k) ≤ 1000000000000 := by
      have h1 := mz_le (rows := rows.take k) (m := 1000000) fun r hr => hn r (List.mem_of_mem_take hr)
      rw [List.length_take] at h1
      have h2 : min k rows.length * 1000000 ≤ 1000000 * 1000000 := Nat.mul_le_mul_right _ (by omega)
      omega
    have hc45 : (⟨#[45]⟩ : ByteArray) = mk [45] := rfl
    have e : ((mz (rows.take k) : Int) + (r.length - (r.count 45 : Nat))) = (mz (rows.take (k + 1)) : Nat) := by omega
    repeat' first | refine c_seq ?_ | refine c_block ?_ | refine c_reg' rfl fun K E hK hE => ?_ | (refine r_opN fun κ η => ?_; simp only [go_sem, Nat.reduceLT, Nat.reduceEqDiff, Nat.reduceAdd, Nat.reduceMul, Nat.reduceLeDiff, Nat.le_refl, reduceIte, reduceCtorEq, hr, mk_size, hc45]; (repeat refine ⟨by omega, ?_⟩); refine η _ ?_; clear η κ) | (refine r_nil (hK _ ?_); clear hE hK E K) | refine q_seq ?_ | refine c_skip ?_
    refine r_opN fun κ η => ?_; simp only [go_sem, Nat.reduceLT, Nat.reduceEqDiff, Nat.reduceAdd, Nat.reduceMul, Nat.reduceLeDiff, Nat.le_refl, reduceIte, reduceCtorEq]; refine ⟨_, hct, ?_⟩; simp only [go_sem, Nat.reduceLT, Nat.reduceEqDiff, Nat.reduceAdd, Nat.reduceMul, Nat.reduceLeDiff, Nat.le_refl, reduceIte, reduceCtorEq]; refine η _ ?_; clear η κ
    repeat' first | refine c_reg' rfl fun K E hK hE => ?_ | (refine r_opN fun κ η => ?_; simp only [go_sem, Nat.reduceLT, Nat.reduceEqDiff, Nat.reduceAdd, Nat.reduceMul, Nat.reduceLeDiff, Nat.le_refl, reduceIte, reduceCtorEq]; (repeat refine ⟨by omega, ?_⟩); refine η _ ?_; clear η κ) | (refine r_nil (hK _ ?_); clear hE hK E K) | refine q_seq ?_ | refine q_blk ?_ | refine q_lpN ?_
    rw [e]
    refine ⟨rows.length - (k + 1), by omega, k + 1, rfl, by omega, trivial, _, _, nf_of rfl ⟨rfl, rfl, rfl, rfl, trivial⟩ trivial⟩
  · simp only [decide_eq_false_iff_not] at hq
    rw [List.take_of_length_le (by omega)]
    repeat' first | refine c_seq ?_ | refine c_reg' rfl fun K E hK hE => ?_ | (refine r_opN fun κ η => ?_; simp only [go_sem, Nat.reduceLT, Nat.reduceEqDiff, Nat.reduceAdd, Nat.reduceMul, Nat.reduceLeDiff, Nat.le_refl, reduceIte, reduceCtorEq]; refine η _ ?_; clear η κ) | (refine r_nil (hK _ ?_); clear hE hK E K) | refine q_seq ?_ | refine c_exit ?_ | refine c_ret ?_ | refine q_seqE ?_ | refine q_blkHit ?_ | refine q_lpE ?_ | (refine q_ret ?_; refine q_r1 ?_; simp only [go_sem, Nat.reduceLT, Nat.reduceEqDiff, Nat.reduceAdd, Nat.reduceMul, Nat.reduceLeDiff, Nat.le_refl, reduceIte, reduceCtorEq])
def okRow (n : Int) (r : Row) : Bool := decide ((r.length : Int) = n) && r.all fun c => c == 48 || (c == 49 || c == 45)
def onceF (rows : List Row) : List Row := rows.foldl (fun l r => if r ∈ l then l else l ++ [r]) []
theorem onceF_take {rows : List Row} {k : Nat} {r : Row} (h : rows[k]? = some r) : onceF (rows.take (k + 1)) = if r ∈ onceF (rows.take k) then onceF (rows.take k) else onceF (rows.take k) ++ [r] := by
  unfold onceF
  rw [List.take_add_one, h, List.foldl_append]
  rfl
theorem onceF_ok (rows : List Row) : (onceF rows).length ≤ rows.length ∧ ∀ r ∈ onceF rows, r ∈ rows := by
  have key : ∀ (m l : List Row), (m.foldl (fun l r => if r ∈ l then l else l ++ [r]) l).length ≤ l.length + m.length ∧ ∀ r ∈ m.foldl (fun l r => if r ∈ l then l else l ++ [r]) l, r ∈ l ∨ r ∈ m := fun m => by
    induction m with
    | nil => exact fun l => ⟨Nat.le_refl _, fun r h => .inl h⟩
    | cons x m ih =>
      intro l
      rw [List.foldl_cons]
      obtain ⟨h1, h2⟩ := ih (if x ∈ l then l else l ++ [x])
      have hl : (if x ∈ l then l else l ++ [x]).length ≤ l.length + 1 := by
        by_cases hx : x ∈ l
        · rw [if_pos hx]; omega
        · rw [if_neg hx, List.length_append]; simp
      constructor
      · rw [List.length_cons]
        omega
      · intro r hr
        rcases h2 r hr with h | h
        · by_cases hx : x ∈ l
          · rw [if_pos hx] at h; exact .inl h
          · rw [if_neg hx] at h
            rcases List.mem_append.1 h with h | h
            · exact .inl h
            · exact .inr (List.mem_cons.2 (.inl (List.mem_singleton.1 h)))
        · exact .inr (List.mem_cons_of_mem _ h)
  obtain ⟨h1, h2⟩ := key rows []
  exact ⟨by unfold onceF; simpa using h1, fun r hr => (h2 r hr).resolve_left List.not_mem_nil⟩
def factD (rows : List Row) : List Fm := factF (mz rows + rows.length) rows
def badA (rows : List Row) (n : Int) : Bool := decide (n < 0 ∨ 8 < n ∨ 128 < rows.length) || !rows.all (okRow n)
set_option maxHeartbeats 4000000 in
theorem factorC2_ct (rows : List Row) (n : Int) : Ct Tryd.prog Hy 10 [rL rows, .i .i64 n] [fL (if badA rows n = true then [] else factD (onceF rows)), .i .i64 (if badA rows n = true then 1 else 0)] := by
  by_cases c0 : n < 0 ∨ 8 < n ∨ 128 < rows.length
  · have hb : badA rows n = true := by rw [badA, decide_eq_true c0]; rfl
    rw [if_pos hb, if_pos hb]
    by_cases c1 : n < 0
    · refine ct_of (cls := _root_.id) tt_ok follows_ Tryd.func10 rfl (by decide) (Nat.le_of_ble_eq_true rfl) ?_
      rw [show Tryd.f10.ntmps = 46 from rfl, s0_nf]
      simp only [List.zipIdx_cons, List.zipIdx_nil, List.map_cons, List.map_nil, Nat.reduceAdd, rL]
      repeat' first | refine c_seq ?_ | refine c_reg' rfl fun K E hK hE => ?_ | ((first | refine r_opN fun κ η => ?_ | refine r_opG rfl fun κ η => ?_); simp only [go_sem, Nat.reduceLT, Nat.reduceEqDiff, Nat.reduceAdd, Nat.reduceMul, Nat.reduceLeDiff, Nat.le_refl, reduceIte, reduceCtorEq, c1]; refine η _ ?_; clear η κ) | (refine r_nil (hK _ ?_); clear hE hK E K) | refine q_seq ?_
      refine c_cond _ rfl (fun hq => ?_) (fun hq => (by cases hq))
      repeat' first | refine c_seq ?_ | refine c_reg' rfl fun K E hK hE => ?_ | (refine r_opN fun κ η => ?_; simp only [go_sem, Nat.reduceLT, Nat.reduceEqDiff, Nat.reduceAdd, Nat.reduceMul, Nat.reduceLeDiff, Nat.le_refl, reduceIte, reduceCtorEq]; refine η _ ?_; clear η κ) | (refine r_nil (hK _ ?_); clear hE hK E K) | refine q_seq ?_ | refine c_ret ?_ | refine q_seqR ?_ | (refine q_ret ?_; refine q_r1 ?_; simp only [go_sem, Nat.reduceLT, Nat.reduceEqDiff, Nat.reduceAdd, Nat.reduceMul, Nat.reduceLeDiff, Nat.le_refl, reduceIte, reduceCtorEq])
      rfl
    by_cases c2 : 8 < n
    · refine ct_of (cls := _root_.id) tt_ok follows_ Tryd.func10 rfl (by decide) (Nat.le_of_ble_eq_true rfl) ?_
      rw [show Tryd.f10.ntmps = 46 from rfl, s0_nf]
      simp only [List.zipIdx_cons, List.zipIdx_nil, List.map_cons, List.map_nil, Nat.reduceAdd, rL]
      repeat' first | refine c_seq ?_ | refine c_reg' rfl fun K E hK hE => ?_ | ((first | refine r_opN fun κ η => ?_ | refine r_opG rfl fun κ η => ?_); simp only [go_sem, Nat.reduceLT, Nat.reduceEqDiff, Nat.reduceAdd, Nat.reduceMul, Nat.reduceLeDiff, Nat.le_refl, reduceIte, reduceCtorEq, c1, c2]; refine η _ ?_; clear η κ) | (refine r_nil (hK _ ?_); clear hE hK E K) | refine q_seq ?_
      refine c_cond _ rfl (fun hq => ?_) (fun hq => (by cases hq))
      repeat' first | refine c_seq ?_ | refine c_reg' rfl fun K E hK hE => ?_ | (refine r_opN fun κ η => ?_; simp only [go_sem, Nat.reduceLT, Nat.reduceEqDiff, Nat.reduceAdd, Nat.reduceMul, Nat.reduceLeDiff, Nat.le_refl, reduceIte, reduceCtorEq]; refine η _ ?_; clear η κ) | (refine r_nil (hK _ ?_); clear hE hK E K) | refine q_seq ?_ | refine c_ret ?_ | refine q_seqR ?_ | (refine q_ret ?_; refine q_r1 ?_; simp only [go_sem, Nat.reduceLT, Nat.reduceEqDiff, Nat.reduceAdd, Nat.reduceMul, Nat.reduceLeDiff, Nat.le_refl, reduceIte, reduceCtorEq])
      rfl
    · have c3 : (128 : Int) < rows.length := by omega
      refine ct_of (cls := _root_.id) tt_ok follows_ Tryd.func10 rfl (by decide) (Nat.le_of_ble_eq_true rfl) ?_
      rw [show Tryd.f10.ntmps = 46 from rfl, s0_nf]
      simp only [List.zipIdx_cons, List.zipIdx_nil, List.map_cons, List.map_nil, Nat.reduceAdd, rL]
      repeat' first | refine c_seq ?_ | refine c_reg' rfl fun K E hK hE => ?_ | ((first | refine r_opN fun κ η => ?_ | refine r_opG rfl fun κ η => ?_); simp only [go_sem, Nat.reduceLT, Nat.reduceEqDiff, Nat.reduceAdd, Nat.reduceMul, Nat.reduceLeDiff, Nat.le_refl, reduceIte, reduceCtorEq, c1, c2, c3]; refine η _ ?_; clear η κ) | (refine r_nil (hK _ ?_); clear hE hK E K) | refine q_seq ?_
      refine c_cond _ rfl (fun hq => ?_) (fun hq => (by cases hq))
      repeat' first | refine c_seq ?_ | refine c_reg' rfl fun K E hK hE => ?_ | (refine r_opN fun κ η => ?_; simp only [go_sem, Nat.reduceLT, Nat.reduceEqDiff, Nat.reduceAdd, Nat.reduceMul, Nat.reduceLeDiff, Nat.le_refl, reduceIte, reduceCtorEq]; refine η _ ?_; clear η κ) | (refine r_nil (hK _ ?_); clear hE hK E K) | refine q_seq ?_ | refine c_ret ?_ | refine q_seqR ?_ | (refine q_ret ?_; refine q_r1 ?_; simp only [go_sem, Nat.reduceLT, Nat.reduceEqDiff, Nat.reduceAdd, Nat.reduceMul, Nat.reduceLeDiff, Nat.le_refl, reduceIte, reduceCtorEq])
      rfl
  have c1 : ¬ n < 0 := fun h => c0 (.inl h)
  have c2 : ¬ 8 < n := fun h => c0 (.inr (.inl h))
  have c3 : ¬ (128 : Int) < rows.length := by omega
  have hbad : badA rows n = !rows.all (okRow n) := by rw [badA, decide_eq_false c0, Bool.false_or]
  obtain ⟨m, rfl⟩ : ∃ m : Nat, n = m := ⟨n.toNat, by omega⟩
  refine ct_of (cls := _root_.id) tt_ok follows_ Tryd.func10 rfl (by decide) (Nat.le_of_ble_eq_true rfl) ?_
  rw [show Tryd.f10.ntmps = 46 from rfl, s0_nf]
  simp only [List.zipIdx_cons, List.zipIdx_nil, List.map_cons, List.map_nil, Nat.reduceAdd, rL]
  repeat' first | refine c_seq ?_ | refine c_reg' rfl fun K E hK hE => ?_ | ((first | refine r_opN fun κ η => ?_ | refine r_opG rfl fun κ η => ?_); simp only [go_sem, Nat.reduceLT, Nat.reduceEqDiff, Nat.reduceAdd, Nat.reduceMul, Nat.reduceLeDiff, Nat.le_refl, reduceIte, reduceCtorEq, c1, c2, c3]; refine η _ ?_; clear η κ) | (refine r_nil (hK _ ?_); clear hE hK E K) | refine q_seq ?_
  refine c_cond _ rfl (fun hq => (by cases hq)) (fun hq => ?_)
  repeat' first | refine c_seq ?_ | refine c_block ?_ | refine c_reg' rfl fun K E hK hE => ?_ | (refine r_opN fun κ η => ?_; simp only [go_sem, Nat.reduceLT, Nat.reduceEqDiff, Nat.reduceAdd, Nat.reduceMul, Nat.reduceLeDiff, Nat.le_refl, reduceIte, reduceCtorEq]; refine η _ ?_; clear η κ) | (refine r_nil (hK _ ?_); clear hE hK E K) | refine q_seq ?_ | refine c_skip ?_
  refine c_loop (fun q s' => ∃ k : Nat, q = rows.length - k ∧ k ≤ rows.length ∧ ∃ F G0 xx, s' = nf 46 F G0 [(1, .t (.i .i64 m)), (6, xx), (20, .t (rL rows)), (21, .t (.i .i64 rows.length)), (22, .t (.i .i64 k))] [] ∧ Acc G0 42 9 1 ((onceF (rows.take k)).map fun r => [.s (mk r)]) xx ∧ ∀ r ∈ rows.take k, okRow m r = true) rows.length ?_ ?_
  · exact ⟨0, by omega, by omega, _, _, _, nf_of rfl ⟨rfl, rfl, rfl, rfl, rfl, trivial⟩ trivial, .inl ⟨rfl, rfl⟩, fun r hr => absurd hr List.not_mem_nil⟩
  rintro q s' ⟨k, rfl, hk, F, G0, xx, rfl, hxx, hok⟩
  simp only [rL]
  repeat' first | refine c_seq ?_ | refine c_reg' rfl fun K E hK hE => ?_ | (refine r_opN fun κ η => ?_; simp only [go_sem, Nat.reduceLT, Nat.reduceEqDiff, Nat.reduceAdd, Nat.reduceMul, Nat.reduceLeDiff, Nat.le_refl, reduceIte, reduceCtorEq]; refine η _ ?_; clear η κ) | (refine r_nil (hK _ ?_); clear hE hK E K) | refine q_seq ?_
  refine c_cond _ rfl (fun hq => ?_) (fun hq => ?_)
  · simp only [decide_eq_true_eq] at hq
    obtain ⟨r, hr⟩ : ∃ r, rows[k]? = some r := ⟨_, List.getElem?_eq_getElem (by omega)⟩
    have hrm := List.mem_of_getElem? hr
    have notok : okRow m r = false → badA rows m = true := fun h => by
      rw [hbad, Bool.not_eq_true', List.all_eq_false]
      exact ⟨r, hrm, by rw [h]; decide⟩
    have hc3 : (⟨#[48, 49, 45]⟩ : ByteArray) = mk [48, 49, 45] := rfl
    have hall : (trimS r [48, 49, 45] = []) = (r.all (fun c => c == 48 || (c == 49 || c == 45)) = true) := by
      rw [trimS_nil, List.all_eq_true]
      simp
    by_cases d1 : (r.length : Int) = m
    · have htr := trim_ct Hy r [48, 49, 45] (by omega) (by decide) (by decide)
      by_cases d2 : trimS r [48, 49, 45] = []
      · have hokr : okRow m r = true := by rw [okRow, decide_eq_true d1, Bool.true_and, ← hall]; exact d2
        have hok2 : ∀ r ∈ rows.take (k + 1), okRow m r = true := fun y hy => by
          rw [List.take_add_one, hr] at hy
          rcases List.mem_append.1 hy with h | h
          · exact hok y h
          · have : y = r := by simpa using h
            rw [this]; exact hokr
        have hon := onceF_ok (rows.take k)
        rw [List.length_take] at hon
        have hot := onceF_take hr
        have hcs := containsS_ct Hy (onceF (rows.take k)) r (by omega)
        have hlen : ((onceF (rows.take k)).map fun r => [T.s (mk r)]).length ≤ 1000000 := by rw [List.length_map]; omega
        have hz := strs1 (onceF (rows.take k))
        simp only [rL] at hcs
        have d1' : ((r.length : Int) = m) = True := eq_true d1
        have hmn : (mk ([] : Row)) = ⟨#[]⟩ := rfl
        rw [d2] at htr
        rcases hxx with ⟨h0, rfl⟩ | ⟨q, rfl, hr2⟩
        · have h00 : onceF (rows.take k) = [] := List.map_eq_nil_iff.1 h0
          rw [h00] at hcs hot
          simp only [List.map_nil, List.not_mem_nil, decide_false] at hcs
          rw [if_neg List.not_mem_nil] at hot
          repeat' first | refine c_seq ?_ | refine c_block ?_ | refine c_reg' rfl fun K E hK hE => ?_ | ((first | refine r_opN fun κ η => ?_ | refine r_opG rfl fun κ η => ?_); simp only [go_sem, Nat.reduceLT, Nat.reduceEqDiff, Nat.reduceAdd, Nat.reduceMul, Nat.reduceLeDiff, Nat.le_refl, reduceIte, reduceCtorEq, hr, mk_size, d1', hc3]; (repeat refine ⟨by omega, ?_⟩); refine η _ ?_; clear η κ) | (refine r_nil (hK _ ?_); clear hE hK E K) | refine q_seq ?_ | refine c_skip ?_
          refine r_opG rfl fun κ η => ?_; simp only [go_sem, Nat.reduceLT, Nat.reduceEqDiff, Nat.reduceAdd, Nat.reduceMul, Nat.reduceLeDiff, Nat.le_refl, reduceIte, reduceCtorEq]; refine ⟨_, htr, ?_⟩; simp only [go_sem, Nat.reduceLT, Nat.reduceEqDiff, Nat.reduceAdd, Nat.reduceMul, Nat.reduceLeDiff, Nat.le_refl, reduceIte, reduceCtorEq]; refine η _ ?_; clear η κ
          repeat' first | ((first | refine r_opN fun κ η => ?_ | refine r_opG rfl fun κ η => ?_); simp only [go_sem, Nat.reduceLT, Nat.reduceEqDiff, Nat.reduceAdd, Nat.reduceMul, Nat.reduceLeDiff, Nat.le_refl, reduceIte, reduceCtorEq, hmn]; refine η _ ?_; clear η κ) | (refine r_nil (hK _ ?_); clear hE hK E K) | refine q_seq ?_
          refine c_cond _ rfl (fun hq => (by cases hq)) (fun hq => ?_)
          repeat' first | refine c_seq ?_ | refine c_reg' rfl fun K E hK hE => ?_ | (refine r_opN fun κ η => ?_; simp only [go_sem, Nat.reduceLT, Nat.reduceEqDiff, Nat.reduceAdd, Nat.reduceMul, Nat.reduceLeDiff, Nat.le_refl, reduceIte, reduceCtorEq]; refine η _ ?_; clear η κ) | refine q_seq ?_ | refine c_skip ?_
          refine r_opN fun κ η => ?_; simp only [go_sem, Nat.reduceLT, Nat.reduceEqDiff, Nat.reduceAdd, Nat.reduceMul, Nat.reduceLeDiff, Nat.le_refl, reduceIte, reduceCtorEq]; refine ⟨_, hcs, ?_⟩; simp only [go_sem, Nat.reduceLT, Nat.reduceEqDiff, Nat.reduceAdd, Nat.reduceMul, Nat.reduceLeDiff, Nat.le_refl, reduceIte, reduceCtorEq]; refine η _ ?_; clear η κ
          repeat' first | (refine r_opN fun κ η => ?_; simp only [go_sem, Nat.reduceLT, Nat.reduceEqDiff, Nat.reduceAdd, Nat.reduceMul, Nat.reduceLeDiff, Nat.le_refl, reduceIte, reduceCtorEq]; refine η _ ?_; clear η κ) | (refine r_nil (hK _ ?_); clear hE hK E K) | refine q_seq ?_
          refine c_cond _ rfl (fun hq => ?_) (fun hq => (by cases hq))
          repeat' first | refine c_reg' rfl fun K E hK hE => ?_ | (refine r_opN fun κ η => ?_; simp only [go_sem, Nat.reduceLT, Nat.reduceEqDiff, Nat.reduceAdd, Nat.reduceMul, Nat.reduceLeDiff, Nat.le_refl, reduceIte, reduceCtorEq]; (repeat refine ⟨by omega, ?_⟩); refine η _ ?_; clear η κ) | (refine r_nil (hK _ ?_); clear hE hK E K) | refine q_seq ?_ | refine q_blk ?_ | refine q_lpN ?_
          exact ⟨rows.length - (k + 1), by omega, k + 1, rfl, by omega, _, _, _, nf_of rfl ⟨rfl, rfl, rfl, rfl, rfl, trivial⟩ trivial, .inr ⟨_, rfl, by rw [hot]; rfl⟩, hok2⟩
        · by_cases d3 : r ∈ onceF (rows.take k)
          · rw [if_pos d3] at hot
            rw [decide_eq_true d3] at hcs
            rw [← hot] at hr2 hcs hz hlen
            generalize hw : (onceF (rows.take (k + 1))).map (fun r => [T.s (mk r)]) = w1 at hr2 hcs hz hlen
            repeat' first | refine c_seq ?_ | refine c_block ?_ | refine c_reg' rfl fun K E hK hE => ?_ | ((first | refine r_opN fun κ η => ?_ | refine r_opG rfl fun κ η => ?_); simp only [go_sem, Nat.reduceLT, Nat.reduceEqDiff, Nat.reduceAdd, Nat.reduceMul, Nat.reduceLeDiff, Nat.le_refl, reduceIte, reduceCtorEq, hr, mk_size, d1', hc3]; (repeat refine ⟨by omega, ?_⟩); refine η _ ?_; clear η κ) | (refine r_nil (hK _ ?_); clear hE hK E K) | refine q_seq ?_ | refine c_skip ?_
            refine r_opG rfl fun κ η => ?_; simp only [go_sem, Nat.reduceLT, Nat.reduceEqDiff, Nat.reduceAdd, Nat.reduceMul, Nat.reduceLeDiff, Nat.le_refl, reduceIte, reduceCtorEq]; refine ⟨_, htr, ?_⟩; simp only [go_sem, Nat.reduceLT, Nat.reduceEqDiff, Nat.reduceAdd, Nat.reduceMul, Nat.reduceLeDiff, Nat.le_refl, reduceIte, reduceCtorEq]; refine η _ ?_; clear η κ
            repeat' first | ((first | refine r_opN fun κ η => ?_ | refine r_opG rfl fun κ η => ?_); simp only [go_sem, Nat.reduceLT, Nat.reduceEqDiff, Nat.reduceAdd, Nat.reduceMul, Nat.reduceLeDiff, Nat.le_refl, reduceIte, reduceCtorEq, hmn]; refine η _ ?_; clear η κ) | (refine r_nil (hK _ ?_); clear hE hK E K) | refine q_seq ?_
            refine c_cond _ rfl (fun hq => (by cases hq)) (fun hq => ?_)
            repeat' first | refine c_seq ?_ | refine c_reg' rfl fun K E hK hE => ?_ | (refine r_opN fun κ η => ?_; simp only [go_sem, Nat.reduceLT, Nat.reduceEqDiff, Nat.reduceAdd, Nat.reduceMul, Nat.reduceLeDiff, Nat.le_refl, reduceIte, reduceCtorEq, hr2]; refine η _ ?_; clear η κ) | refine q_seq ?_ | refine c_skip ?_
            refine r_opN fun κ η => ?_; simp only [go_sem, Nat.reduceLT, Nat.reduceEqDiff, Nat.reduceAdd, Nat.reduceMul, Nat.reduceLeDiff, Nat.le_refl, reduceIte, reduceCtorEq, hr2]; refine ⟨_, hcs, ?_⟩; simp only [go_sem, Nat.reduceLT, Nat.reduceEqDiff, Nat.reduceAdd, Nat.reduceMul, Nat.reduceLeDiff, Nat.le_refl, reduceIte, reduceCtorEq, hr2]; refine η _ ?_; clear η κ
            repeat' first | (refine r_opN fun κ η => ?_; simp only [go_sem, Nat.reduceLT, Nat.reduceEqDiff, Nat.reduceAdd, Nat.reduceMul, Nat.reduceLeDiff, Nat.le_refl, reduceIte, reduceCtorEq]; refine η _ ?_; clear η κ) | (refine r_nil (hK _ ?_); clear hE hK E K) | refine q_seq ?_
            refine c_cond _ rfl (fun hq => (by cases hq)) (fun hq => ?_)
            repeat' first | refine c_reg' rfl fun K E hK hE => ?_ | (refine r_opN fun κ η => ?_; simp only [go_sem, Nat.reduceLT, Nat.reduceEqDiff, Nat.reduceAdd, Nat.reduceMul, Nat.reduceLeDiff, Nat.le_refl, reduceIte, reduceCtorEq]; (repeat refine ⟨by omega, ?_⟩); refine η _ ?_; clear η κ) | (refine r_nil (hK _ ?_); clear hE hK E K) | refine q_seq ?_ | refine q_blk ?_ | refine c_skip ?_ | refine q_lpN ?_
            exact ⟨rows.length - (k + 1), by omega, k + 1, rfl, by omega, _, _, _, nf_of rfl ⟨rfl, rfl, rfl, rfl, rfl, trivial⟩ trivial, .inr ⟨_, rfl, by rw [hw]; exact hr2⟩, hok2⟩
          · rw [if_neg d3] at hot
            rw [decide_eq_false d3] at hcs
            have hs : (onceF (rows.take (k + 1))).map (fun r => [T.s (mk r)]) = (onceF (rows.take k)).map (fun r => [T.s (mk r)]) ++ [[.s (mk r)]] := by rw [hot, List.map_append]; rfl
            generalize (onceF (rows.take k)).map (fun r => [T.s (mk r)]) = w1 at hr2 hcs hz hlen hs
            repeat' first | refine c_seq ?_ | refine c_block ?_ | refine c_reg' rfl fun K E hK hE => ?_ | ((first | refine r_opN fun κ η => ?_ | refine r_opG rfl fun κ η => ?_); simp only [go_sem, Nat.reduceLT, Nat.reduceEqDiff, Nat.reduceAdd, Nat.reduceMul, Nat.reduceLeDiff, Nat.le_refl, reduceIte, reduceCtorEq, hr, mk_size, d1', hc3]; (repeat refine ⟨by omega, ?_⟩); refine η _ ?_; clear η κ) | (refine r_nil (hK _ ?_); clear hE hK E K) | refine q_seq ?_ | refine c_skip ?_
            refine r_opG rfl fun κ η => ?_; simp only [go_sem, Nat.reduceLT, Nat.reduceEqDiff, Nat.reduceAdd, Nat.reduceMul, Nat.reduceLeDiff, Nat.le_refl, reduceIte, reduceCtorEq]; refine ⟨_, htr, ?_⟩; simp only [go_sem, Nat.reduceLT, Nat.reduceEqDiff, Nat.reduceAdd, Nat.reduceMul, Nat.reduceLeDiff, Nat.le_refl, reduceIte, reduceCtorEq]; refine η _ ?_; clear η κ
            repeat' first | ((first | refine r_opN fun κ η => ?_ | refine r_opG rfl fun κ η => ?_); simp only [go_sem, Nat.reduceLT, Nat.reduceEqDiff, Nat.reduceAdd, Nat.reduceMul, Nat.reduceLeDiff, Nat.le_refl, reduceIte, reduceCtorEq, hmn]; refine η _ ?_; clear η κ) | (refine r_nil (hK _ ?_); clear hE hK E K) | refine q_seq ?_
            refine c_cond _ rfl (fun hq => (by cases hq)) (fun hq => ?_)
            repeat' first | refine c_seq ?_ | refine c_reg' rfl fun K E hK hE => ?_ | (refine r_opN fun κ η => ?_; simp only [go_sem, Nat.reduceLT, Nat.reduceEqDiff, Nat.reduceAdd, Nat.reduceMul, Nat.reduceLeDiff, Nat.le_refl, reduceIte, reduceCtorEq, hr2]; refine η _ ?_; clear η κ) | refine q_seq ?_ | refine c_skip ?_
            refine r_opN fun κ η => ?_; simp only [go_sem, Nat.reduceLT, Nat.reduceEqDiff, Nat.reduceAdd, Nat.reduceMul, Nat.reduceLeDiff, Nat.le_refl, reduceIte, reduceCtorEq, hr2]; refine ⟨_, hcs, ?_⟩; simp only [go_sem, Nat.reduceLT, Nat.reduceEqDiff, Nat.reduceAdd, Nat.reduceMul, Nat.reduceLeDiff, Nat.le_refl, reduceIte, reduceCtorEq, hr2]; refine η _ ?_; clear η κ
            repeat' first | (refine r_opN fun κ η => ?_; simp only [go_sem, Nat.reduceLT, Nat.reduceEqDiff, Nat.reduceAdd, Nat.reduceMul, Nat.reduceLeDiff, Nat.le_refl, reduceIte, reduceCtorEq]; refine η _ ?_; clear η κ) | (refine r_nil (hK _ ?_); clear hE hK E K) | refine q_seq ?_
            refine c_cond _ rfl (fun hq => ?_) (fun hq => (by cases hq))
            repeat' first | refine c_reg' rfl fun K E hK hE => ?_ | (refine r_opN fun κ η => ?_; simp only [go_sem, Nat.reduceLT, Nat.reduceEqDiff, Nat.reduceAdd, Nat.reduceMul, Nat.reduceLeDiff, Nat.le_refl, reduceIte, reduceCtorEq, hr2]; (repeat refine ⟨by omega, ?_⟩); refine η _ ?_; clear η κ) | (refine r_nil (hK _ ?_); clear hE hK E K) | refine q_seq ?_ | refine q_blk ?_ | refine q_lpN ?_
            exact ⟨rows.length - (k + 1), by omega, k + 1, rfl, by omega, _, _, _, nf_of rfl ⟨rfl, rfl, rfl, rfl, rfl, trivial⟩ trivial, .inr ⟨_, rfl, by rw [hs]; rfl⟩, hok2⟩
      · have hb : badA rows m = true := notok (by rw [okRow, ← Bool.not_eq_true, Bool.and_eq_true, not_and]; intro _ h; exact d2 (hall ▸ h))
        rw [if_pos hb, if_pos hb]
        have d1' : ((r.length : Int) = m) = True := eq_true d1
        have hd2 : (mk (trimS r [48, 49, 45]) = (⟨#[]⟩ : ByteArray)) = False := by rw [mk_nil]; exact eq_false d2
        repeat' first | refine c_seq ?_ | refine c_block ?_ | refine c_reg' rfl fun K E hK hE => ?_ | ((first | refine r_opN fun κ η => ?_ | refine r_opG rfl fun κ η => ?_); simp only [go_sem, Nat.reduceLT, Nat.reduceEqDiff, Nat.reduceAdd, Nat.reduceMul, Nat.reduceLeDiff, Nat.le_refl, reduceIte, reduceCtorEq, hr, mk_size, d1', hc3]; (repeat refine ⟨by omega, ?_⟩); refine η _ ?_; clear η κ) | (refine r_nil (hK _ ?_); clear hE hK E K) | refine q_seq ?_ | refine c_skip ?_
        refine r_opG rfl fun κ η => ?_; simp only [go_sem, Nat.reduceLT, Nat.reduceEqDiff, Nat.reduceAdd, Nat.reduceMul, Nat.reduceLeDiff, Nat.le_refl, reduceIte, reduceCtorEq]; refine ⟨_, htr, ?_⟩; simp only [go_sem, Nat.reduceLT, Nat.reduceEqDiff, Nat.reduceAdd, Nat.reduceMul, Nat.reduceLeDiff, Nat.le_refl, reduceIte, reduceCtorEq]; refine η _ ?_; clear η κ
        repeat' first | ((first | refine r_opN fun κ η => ?_ | refine r_opG rfl fun κ η => ?_); simp only [go_sem, Nat.reduceLT, Nat.reduceEqDiff, Nat.reduceAdd, Nat.reduceMul, Nat.reduceLeDiff, Nat.le_refl, reduceIte, reduceCtorEq, hd2]; refine η _ ?_; clear η κ) | (refine r_nil (hK _ ?_); clear hE hK E K) | refine q_seq ?_
        refine c_cond _ rfl (fun hq => ?_) (fun hq => (by cases hq))
        repeat' first | refine c_seq ?_ | refine c_reg' rfl fun K E hK hE => ?_ | (refine r_opN fun κ η => ?_; simp only [go_sem, Nat.reduceLT, Nat.reduceEqDiff, Nat.reduceAdd, Nat.reduceMul, Nat.reduceLeDiff, Nat.le_refl, reduceIte, reduceCtorEq]; refine η _ ?_; clear η κ) | (refine r_nil (hK _ ?_); clear hE hK E K) | refine q_seq ?_ | refine c_ret ?_ | refine q_seqR ?_ | refine q_blkR ?_ | refine q_lpR ?_ | (refine q_ret ?_; refine q_r1 ?_; simp only [go_sem, Nat.reduceLT, Nat.reduceEqDiff, Nat.reduceAdd, Nat.reduceMul, Nat.reduceLeDiff, Nat.le_refl, reduceIte, reduceCtorEq])
        rfl
    · have hb : badA rows m = true := notok (by rw [okRow, decide_eq_false d1]; rfl)
      rw [if_pos hb, if_pos hb]
      have d1' : ((r.length : Int) = m) = False := eq_false d1
      repeat' first | refine c_seq ?_ | refine c_block ?_ | refine c_reg' rfl fun K E hK hE => ?_ | ((first | refine r_opN fun κ η => ?_ | refine r_opG rfl fun κ η => ?_); simp only [go_sem, Nat.reduceLT, Nat.reduceEqDiff, Nat.reduceAdd, Nat.reduceMul, Nat.reduceLeDiff, Nat.le_refl, reduceIte, reduceCtorEq, hr, mk_size, d1']; (repeat refine ⟨by omega, ?_⟩); refine η _ ?_; clear η κ) | (refine r_nil (hK _ ?_); clear hE hK E K) | refine q_seq ?_ | refine c_skip ?_
      refine c_cond _ rfl (fun hq => ?_) (fun hq => (by cases hq))
      repeat' first | refine c_seq ?_ | refine c_reg' rfl fun K E hK hE => ?_ | (refine r_opN fun κ η => ?_; simp only [go_sem, Nat.reduceLT, Nat.reduceEqDiff, Nat.reduceAdd, Nat.reduceMul, Nat.reduceLeDiff, Nat.le_refl, reduceIte, reduceCtorEq]; refine η _ ?_; clear η κ) | (refine r_nil (hK _ ?_); clear hE hK E K) | refine q_seq ?_ | refine c_ret ?_ | refine q_seqR ?_ | refine q_blkR ?_ | refine q_lpR ?_ | (refine q_ret ?_; refine q_r1 ?_; simp only [go_sem, Nat.reduceLT, Nat.reduceEqDiff, Nat.reduceAdd, Nat.reduceMul, Nat.reduceLeDiff, Nat.le_refl, reduceIte, reduceCtorEq])
      rfl
  · simp only [decide_eq_false_iff_not] at hq
    rw [List.take_of_length_le (by omega)] at hxx hok
    have hb : badA rows m = false := by rw [hbad, List.all_eq_true.2 hok]; rfl
    rw [hb, if_neg (by decide), if_neg (by decide)]
    obtain ⟨o1, o2⟩ := onceF_ok rows
    have hrl : ∀ r ∈ onceF rows, r.length = m := fun r hr => by
      have := hok r (o2 r hr)
      rw [okRow, Bool.and_eq_true] at this
      have := of_decide_eq_true this.1
      omega
    have hmz := mz_le (rows := onceF rows) (m := 8) fun r hr => by rw [hrl r hr]; omega
    have hf := factor_ct Hy m (by omega) (mz (onceF rows) + (onceF rows).length) (onceF rows) (Nat.le_refl _) (by omega) (by omega) hrl
    have hz := strs1 (onceF rows)
    simp only [rL] at hf
    have hfd : factF (mz (onceF rows) + (onceF rows).length) (onceF rows) = factD (onceF rows) := rfl
    rw [hfd] at hf
    rcases hxx with ⟨h0, rfl⟩ | ⟨q, rfl, hr2⟩
    · rw [h0] at hf
      repeat' first | refine c_seq ?_ | refine c_reg' rfl fun K E hK hE => ?_ | (refine r_opN fun κ η => ?_; simp only [go_sem, Nat.reduceLT, Nat.reduceEqDiff, Nat.reduceAdd, Nat.reduceMul, Nat.reduceLeDiff, Nat.le_refl, reduceIte, reduceCtorEq]; refine η _ ?_; clear η κ) | refine q_seq ?_ | refine c_exit ?_ | refine q_seqE ?_ | refine q_blkHit ?_ | refine q_lpE ?_
      refine r_opN fun κ η => ?_; simp only [go_sem, Nat.reduceLT, Nat.reduceEqDiff, Nat.reduceAdd, Nat.reduceMul, Nat.reduceLeDiff, Nat.le_refl, reduceIte, reduceCtorEq, fL]; refine ⟨_, hf, ?_⟩; simp only [go_sem, Nat.reduceLT, Nat.reduceEqDiff, Nat.reduceAdd, Nat.reduceMul, Nat.reduceLeDiff, Nat.le_refl, reduceIte, reduceCtorEq, fL]; refine η _ ?_; clear η κ
      repeat' first | (refine r_opN fun κ η => ?_; simp only [go_sem, Nat.reduceLT, Nat.reduceEqDiff, Nat.reduceAdd, Nat.reduceMul, Nat.reduceLeDiff, Nat.le_refl, reduceIte, reduceCtorEq, fL]; refine η _ ?_; clear η κ) | (refine r_nil (hK _ ?_); clear hE hK E K) | refine q_seq ?_ | refine c_ret ?_ | (refine q_ret ?_; refine q_r1 ?_; simp only [go_sem, Nat.reduceLT, Nat.reduceEqDiff, Nat.reduceAdd, Nat.reduceMul, Nat.reduceLeDiff, Nat.le_refl, reduceIte, reduceCtorEq, fL])
    · generalize (onceF rows).map (fun r => [T.s (mk r)]) = w1 at hf hr2 hz
      repeat' first | refine c_seq ?_ | refine c_reg' rfl fun K E hK hE => ?_ | (refine r_opN fun κ η => ?_; simp only [go_sem, Nat.reduceLT, Nat.reduceEqDiff, Nat.reduceAdd, Nat.reduceMul, Nat.reduceLeDiff, Nat.le_refl, reduceIte, reduceCtorEq, hr2]; refine η _ ?_; clear η κ) | refine q_seq ?_ | refine c_exit ?_ | refine q_seqE ?_ | refine q_blkHit ?_ | refine q_lpE ?_
      refine r_opN fun κ η => ?_; simp only [go_sem, Nat.reduceLT, Nat.reduceEqDiff, Nat.reduceAdd, Nat.reduceMul, Nat.reduceLeDiff, Nat.le_refl, reduceIte, reduceCtorEq, fL, hr2]; refine ⟨_, hf, ?_⟩; simp only [go_sem, Nat.reduceLT, Nat.reduceEqDiff, Nat.reduceAdd, Nat.reduceMul, Nat.reduceLeDiff, Nat.le_refl, reduceIte, reduceCtorEq, fL, hr2]; refine η _ ?_; clear η κ
      repeat' first | (refine r_opN fun κ η => ?_; simp only [go_sem, Nat.reduceLT, Nat.reduceEqDiff, Nat.reduceAdd, Nat.reduceMul, Nat.reduceLeDiff, Nat.le_refl, reduceIte, reduceCtorEq, fL]; refine η _ ?_; clear η κ) | (refine r_nil (hK _ ?_); clear hE hK E K) | refine q_seq ?_ | refine c_ret ?_ | (refine q_ret ?_; refine q_r1 ?_; simp only [go_sem, Nat.reduceLT, Nat.reduceEqDiff, Nat.reduceAdd, Nat.reduceMul, Nat.reduceLeDiff, Nat.le_refl, reduceIte, reduceCtorEq, fL])
theorem factorC_ct (rows : List Row) (n : Int) (_ : rows.length ≤ 1000000) (_ : ∀ r ∈ rows, r.length ≤ 1000000) : Ct Tryd.prog Hy 10 [rL rows, .i .i64 n] [fL (if badA rows n = true then [] else factD (onceF rows)), .i .i64 (if badA rows n = true then 1 else 0)] := factorC2_ct Hy rows n
end Go.Proofs.YtfflfmpkjcomgaaDoor
