import Derived.Test.YtpbfkpdfodmcaaaD3
import Derived.Test.YtpbfkpdfodmcaaaB1
namespace Go.Proofs.Ytpbfkpdfodmcaaa
open Go.RowKit
set_option maxRecDepth 100000
set_option linter.unusedSimpArgs false
variable (Hy : World → Prop)
attribute [local irreducible] runM runD cwp seqQ blkQ lpQ retQ
/-- how many latches have either beginning -/
def eithN (l : List Int) : Nat := l.countP fun b => decide (b = 2)
def badB (b : Int) : Bool := decide (b < 0 ∨ 2 < b)
def unCheck (g : G) (begin : List Int) (k : Int) : Int :=
  if checkG g ≠ 0 then checkG g
  else if begin.length ≠ g.next.length ∨ begin.any badB = true then 1
  else if k < 0 ∨ 40 < k ∨ 20000 < 1 + (eithN begin : Int) + k * (g.ins + g.ands.length) then 8 else 0
theorem eithN_take {l : List Int} {k : Nat} {x : Int} (hx : l[k]? = some x) : (eithN (l.take (k + 1)) : Int) = eithN (l.take k) + if x = 2 then 1 else 0 := by
  unfold eithN
  rw [List.take_add_one, hx, List.countP_append]
  by_cases h : x = 2
  · rw [if_pos h]; simp [h]
  · rw [if_neg h]; simp [h]
theorem eithN_le (l : List Int) : eithN l ≤ l.length := List.countP_le_length
theorem mul_in {k q : Int} (h1 : 0 ≤ k ∧ k ≤ 40) (h2 : 0 ≤ q ∧ q ≤ 4000) : 0 ≤ k * q ∧ k * q ≤ 160000 :=
  ⟨Int.mul_nonneg h1.1 h2.1, by have := Int.mul_le_mul h1.2 h2.2 h2.1 (by decide); omega⟩
set_option maxHeartbeats 2000000 in
theorem uncheck_ct (g : G) (begin : List Int) (k : Int) (h : g.Small) (hb : begin.length ≤ 140737488355328) : Ct Try.prog Hy 90 [g.t, iL begin, .i .i64 k] [.i .i64 (unCheck g begin k)] := by
  have hck := check_ct Hy g h
  refine ct_of (cls := _root_.id) tt_ok follows_ Try.func90 rfl (by decide) (Nat.le_of_ble_eq_true rfl) ?_
  rw [show Try.f90.ntmps = 58 from rfl, s0_nf]
  simp only [List.zipIdx_cons, List.zipIdx_nil, List.map_cons, List.map_nil, Nat.reduceAdd, G.t, iL, pL]
  repeat' first | refine c_seq ?_ | refine c_reg' rfl fun K hK => ?_ | (refine r_opN fun κ η => ?_; simp only [go_sem, Nat.reduceLT, Nat.reduceEqDiff, Nat.reduceAdd, Nat.reduceMul, Nat.reduceLeDiff, Nat.le_refl, reduceIte, reduceCtorEq]; refine η _ ?_; clear η κ) | (refine r_nil (hK _ ?_); clear hK K) | refine q_seq ?_
  refine r_opN fun κ η => ?_; simp only [go_sem, Nat.reduceLT, Nat.reduceEqDiff, Nat.reduceAdd, Nat.reduceMul, Nat.reduceLeDiff, Nat.le_refl, reduceIte, reduceCtorEq, G.t, iL, pL]; refine ⟨_, hck, ?_⟩; simp only [go_sem, Nat.reduceLT, Nat.reduceEqDiff, Nat.reduceAdd, Nat.reduceMul, Nat.reduceLeDiff, Nat.le_refl, reduceIte, reduceCtorEq, G.t, iL, pL]; refine η _ ?_; clear η κ
  repeat' first | refine c_seq ?_ | refine c_reg' rfl fun K hK => ?_ | (refine r_opN fun κ η => ?_; simp only [go_sem, Nat.reduceLT, Nat.reduceEqDiff, Nat.reduceAdd, Nat.reduceMul, Nat.reduceLeDiff, Nat.le_refl, reduceIte, reduceCtorEq]; refine η _ ?_; clear η κ) | (refine r_nil (hK _ ?_); clear hK K) | refine q_seq ?_
  refine c_cond _ rfl (fun hq => ?_) (fun hq => ?_)
  · simp only [Bool.not_eq_true', decide_eq_false_iff_not] at hq
    repeat' first | refine c_seq ?_ | refine c_reg' rfl fun K hK => ?_ | (refine r_opN fun κ η => ?_; simp only [go_sem, Nat.reduceLT, Nat.reduceEqDiff, Nat.reduceAdd, Nat.reduceMul, Nat.reduceLeDiff, Nat.le_refl, reduceIte, reduceCtorEq]; refine η _ ?_; clear η κ) | (refine r_nil (hK _ ?_); clear hK K) | refine q_seq ?_ | refine c_ret ?_ | refine q_seqR ?_ | (refine q_ret ?_; refine q_r1 ?_; simp only [go_sem, Nat.reduceLT, Nat.reduceEqDiff, Nat.reduceAdd, Nat.reduceMul, Nat.reduceLeDiff, Nat.le_refl, reduceIte, reduceCtorEq])
    rw [unCheck, if_pos hq]
  simp only [Bool.not_eq_false', decide_eq_true_eq] at hq
  obtain ⟨⟨g1, g2, g3, g4⟩, hok⟩ := checkG_ok hq
  unfold G.top at g3
  rw [unCheck, if_neg (not_not_intro hq)]
  repeat' first | refine c_seq ?_ | refine c_reg' rfl fun K hK => ?_ | (refine r_opN fun κ η => ?_; simp only [go_sem, Nat.reduceLT, Nat.reduceEqDiff, Nat.reduceAdd, Nat.reduceMul, Nat.reduceLeDiff, Nat.le_refl, reduceIte, reduceCtorEq]; (repeat refine ⟨by omega, ?_⟩); refine η _ ?_; clear η κ) | (refine r_nil (hK _ ?_); clear hK K) | refine q_seq ?_ | refine c_skip ?_
  refine c_cond _ rfl (fun hq2 => ?_) (fun hq2 => ?_)
  · simp only [Bool.not_eq_true', decide_eq_false_iff_not] at hq2
    repeat' first | refine c_seq ?_ | refine c_reg' rfl fun K hK => ?_ | (refine r_opN fun κ η => ?_; simp only [go_sem, Nat.reduceLT, Nat.reduceEqDiff, Nat.reduceAdd, Nat.reduceMul, Nat.reduceLeDiff, Nat.le_refl, reduceIte, reduceCtorEq]; refine η _ ?_; clear η κ) | (refine r_nil (hK _ ?_); clear hK K) | refine q_seq ?_ | refine c_ret ?_ | refine q_seqR ?_ | (refine q_ret ?_; refine q_r1 ?_; simp only [go_sem, Nat.reduceLT, Nat.reduceEqDiff, Nat.reduceAdd, Nat.reduceMul, Nat.reduceLeDiff, Nat.le_refl, reduceIte, reduceCtorEq])
    rw [if_pos (.inl (fun e => hq2 (by rw [e])))]
  simp only [Bool.not_eq_false', decide_eq_true_eq] at hq2
  repeat' first | refine c_seq ?_ | refine c_block ?_ | refine c_reg' rfl fun K hK => ?_ | (refine r_opN fun κ η => ?_; simp only [go_sem, Nat.reduceLT, Nat.reduceEqDiff, Nat.reduceAdd, Nat.reduceMul, Nat.reduceLeDiff, Nat.le_refl, reduceIte, reduceCtorEq]; refine η _ ?_; clear η κ) | (refine r_nil (hK _ ?_); clear hK K) | refine q_seq ?_ | refine c_skip ?_
  refine c_loop (fun m s' => ∃ i : Nat, m = begin.length - i ∧ i ≤ begin.length ∧ (∀ (j : Nat) y, j < i → begin[j]? = some y → badB y = false) ∧ ∃ F G0, s' = nf 58 F G0 [(2, .t (.i .i64 k)), (3, .ptr 3 1 0), (8, .t (.i .i64 (1 + eithN (begin.take i)))), (22, .t (iL begin)), (23, .t (.i .i64 begin.length)), (24, .t (.i .i64 i))] [(3, ⟨1, .cells 25 g.cells⟩)]) (begin.length) ?_ ?_
  · exact ⟨0, by omega, by omega, fun j x hj => absurd hj (Nat.not_lt_zero j), _, _, nf_of rfl ⟨rfl, rfl, rfl, rfl, rfl, rfl, trivial⟩ ⟨rfl, trivial⟩⟩
  rintro m s' ⟨i, rfl, hi, hno, F, G0, rfl⟩
  have hle := eithN_le (begin.take i)
  rw [List.length_take] at hle
  simp only [iL, G.cells, pL]
  repeat' first | refine c_seq ?_ | refine c_reg' rfl fun K hK => ?_ | (refine r_opN fun κ η => ?_; simp only [go_sem, Nat.reduceLT, Nat.reduceEqDiff, Nat.reduceAdd, Nat.reduceMul, Nat.reduceLeDiff, Nat.le_refl, reduceIte, reduceCtorEq]; refine η _ ?_; clear η κ) | (refine r_nil (hK _ ?_); clear hK K) | refine q_seq ?_
  refine c_cond _ rfl (fun hq3 => ?_) (fun hq3 => ?_)
  · simp only [decide_eq_true_eq] at hq3
    obtain ⟨x, hx⟩ : ∃ x, begin[i]? = some x := ⟨_, List.getElem?_eq_getElem (by omega)⟩
    have bad : badB x = true → (begin.length ≠ g.next.length ∨ begin.any badB = true) := fun hb => .inr (List.any_eq_true.2 ⟨x, List.mem_of_getElem? hx, hb⟩)
    by_cases d1 : x < 0
    · repeat' first | refine c_seq ?_ | refine c_block ?_ | refine c_reg' rfl fun K hK => ?_ | ((first | refine r_opN fun κ η => ?_ | refine r_opG rfl fun κ η => ?_); simp only [go_sem, Nat.reduceLT, Nat.reduceEqDiff, Nat.reduceAdd, Nat.reduceMul, Nat.reduceLeDiff, Nat.le_refl, reduceIte, reduceCtorEq, hx, d1]; (repeat refine ⟨by omega, ?_⟩); refine η _ ?_; clear η κ) | (refine r_nil (hK _ ?_); clear hK K) | refine q_seq ?_ | refine c_skip ?_
      refine c_cond _ rfl (fun hq4 => ?_) (fun hq4 => (by cases hq4))
      repeat' first | refine c_seq ?_ | refine c_reg' rfl fun K hK => ?_ | (refine r_opN fun κ η => ?_; simp only [go_sem, Nat.reduceLT, Nat.reduceEqDiff, Nat.reduceAdd, Nat.reduceMul, Nat.reduceLeDiff, Nat.le_refl, reduceIte, reduceCtorEq]; refine η _ ?_; clear η κ) | (refine r_nil (hK _ ?_); clear hK K) | refine q_seq ?_ | refine c_ret ?_ | refine q_seqR ?_ | refine q_blkR ?_ | refine q_lpR ?_ | (refine q_ret ?_; refine q_r1 ?_; simp only [go_sem, Nat.reduceLT, Nat.reduceEqDiff, Nat.reduceAdd, Nat.reduceMul, Nat.reduceLeDiff, Nat.le_refl, reduceIte, reduceCtorEq])
      rw [if_pos (bad (decide_eq_true (.inl d1)))]
    repeat' first | refine c_seq ?_ | refine c_block ?_ | refine c_reg' rfl fun K hK => ?_ | ((first | refine r_opN fun κ η => ?_ | refine r_opG rfl fun κ η => ?_); simp only [go_sem, Nat.reduceLT, Nat.reduceEqDiff, Nat.reduceAdd, Nat.reduceMul, Nat.reduceLeDiff, Nat.le_refl, reduceIte, reduceCtorEq, hx, d1]; (repeat refine ⟨by omega, ?_⟩); refine η _ ?_; clear η κ) | (refine r_nil (hK _ ?_); clear hK K) | refine q_seq ?_ | refine c_skip ?_
    refine c_cond _ rfl (fun hq4 => ?_) (fun hq4 => ?_)
    · simp only [decide_eq_true_eq] at hq4
      repeat' first | refine c_seq ?_ | refine c_reg' rfl fun K hK => ?_ | (refine r_opN fun κ η => ?_; simp only [go_sem, Nat.reduceLT, Nat.reduceEqDiff, Nat.reduceAdd, Nat.reduceMul, Nat.reduceLeDiff, Nat.le_refl, reduceIte, reduceCtorEq]; refine η _ ?_; clear η κ) | (refine r_nil (hK _ ?_); clear hK K) | refine q_seq ?_ | refine c_ret ?_ | refine q_seqR ?_ | refine q_blkR ?_ | refine q_lpR ?_ | (refine q_ret ?_; refine q_r1 ?_; simp only [go_sem, Nat.reduceLT, Nat.reduceEqDiff, Nat.reduceAdd, Nat.reduceMul, Nat.reduceLeDiff, Nat.le_refl, reduceIte, reduceCtorEq])
      rw [if_pos (bad (decide_eq_true (.inr hq4)))]
    simp only [decide_eq_false_iff_not] at hq4
    have hnx : ∀ (j : Nat) y, j < i + 1 → begin[j]? = some y → badB y = false := fun j y hj hy => by
      rcases Nat.lt_or_eq_of_le (Nat.lt_succ_iff.1 hj) with h | rfl
      · exact hno j y h hy
      · rw [hx] at hy
        cases hy
        exact decide_eq_false (by omega)
    have he := eithN_take hx
    repeat' first | refine c_seq ?_ | refine c_reg' rfl fun K hK => ?_ | (refine r_opN fun κ η => ?_; simp only [go_sem, Nat.reduceLT, Nat.reduceEqDiff, Nat.reduceAdd, Nat.reduceMul, Nat.reduceLeDiff, Nat.le_refl, reduceIte, reduceCtorEq]; refine η _ ?_; clear η κ) | (refine r_nil (hK _ ?_); clear hK K) | refine q_seq ?_ | refine c_skip ?_
    refine c_cond _ rfl (fun hq5 => ?_) (fun hq5 => ?_)
    · simp only [decide_eq_true_eq] at hq5
      rw [if_pos hq5] at he
      repeat' first | refine c_reg' rfl fun K hK => ?_ | (refine r_opN fun κ η => ?_; simp only [go_sem, Nat.reduceLT, Nat.reduceEqDiff, Nat.reduceAdd, Nat.reduceMul, Nat.reduceLeDiff, Nat.le_refl, reduceIte, reduceCtorEq]; (repeat refine ⟨by omega, ?_⟩); refine η _ ?_; clear η κ) | (refine r_nil (hK _ ?_); clear hK K) | refine q_seq ?_ | refine q_blk ?_ | refine q_lpN ?_
      refine ⟨begin.length - (i + 1), by omega, i + 1, rfl, by omega, hnx, _, _, nf_of rfl ⟨rfl, rfl, by rw [he, ← Int.add_assoc]; rfl, rfl, rfl, rfl, trivial⟩ ⟨rfl, trivial⟩⟩
    · simp only [decide_eq_false_iff_not] at hq5
      rw [if_neg hq5, Int.add_zero] at he
      repeat' first | refine c_reg' rfl fun K hK => ?_ | (refine r_opN fun κ η => ?_; simp only [go_sem, Nat.reduceLT, Nat.reduceEqDiff, Nat.reduceAdd, Nat.reduceMul, Nat.reduceLeDiff, Nat.le_refl, reduceIte, reduceCtorEq]; (repeat refine ⟨by omega, ?_⟩); refine η _ ?_; clear η κ) | (refine r_nil (hK _ ?_); clear hK K) | refine q_seq ?_ | refine q_blk ?_ | refine c_skip ?_ | refine q_lpN ?_
      refine ⟨begin.length - (i + 1), by omega, i + 1, rfl, by omega, hnx, _, _, nf_of rfl ⟨rfl, rfl, by rw [he]; rfl, rfl, rfl, rfl, trivial⟩ ⟨rfl, trivial⟩⟩
  · simp only [decide_eq_false_iff_not] at hq3
    rw [if_neg (fun e => by
      rcases e with e | e
      · exact e (by omega)
      · obtain ⟨x, hx, hb⟩ := List.any_eq_true.1 e
        obtain ⟨j, hj⟩ := List.getElem?_of_mem hx
        rw [hno j x (by have := (List.getElem?_eq_some_iff.1 hj).1; omega) hj] at hb
        cases hb)]
    rw [List.take_of_length_le (by omega)] at hle ⊢
    by_cases e1 : k < 0
    · repeat' first | refine c_seq ?_ | refine c_reg' rfl fun K hK => ?_ | ((first | refine r_opN fun κ η => ?_ | refine r_opG rfl fun κ η => ?_); simp only [go_sem, Nat.reduceLT, Nat.reduceEqDiff, Nat.reduceAdd, Nat.reduceMul, Nat.reduceLeDiff, Nat.le_refl, reduceIte, reduceCtorEq, e1]; refine η _ ?_; clear η κ) | (refine r_nil (hK _ ?_); clear hK K) | refine q_seq ?_ | refine c_exit ?_ | refine q_seqE ?_ | refine q_blkHit ?_ | refine q_lpE ?_
      refine c_cond _ rfl (fun hq4 => ?_) (fun hq4 => (by cases hq4))
      repeat' first | refine c_seq ?_ | refine c_reg' rfl fun K hK => ?_ | (refine r_opN fun κ η => ?_; simp only [go_sem, Nat.reduceLT, Nat.reduceEqDiff, Nat.reduceAdd, Nat.reduceMul, Nat.reduceLeDiff, Nat.le_refl, reduceIte, reduceCtorEq]; refine η _ ?_; clear η κ) | (refine r_nil (hK _ ?_); clear hK K) | refine q_seq ?_ | refine c_ret ?_ | refine q_seqR ?_ | (refine q_ret ?_; refine q_r1 ?_; simp only [go_sem, Nat.reduceLT, Nat.reduceEqDiff, Nat.reduceAdd, Nat.reduceMul, Nat.reduceLeDiff, Nat.le_refl, reduceIte, reduceCtorEq])
      rw [if_pos (.inl e1)]
    by_cases e2 : 40 < k
    · repeat' first | refine c_seq ?_ | refine c_reg' rfl fun K hK => ?_ | ((first | refine r_opN fun κ η => ?_ | refine r_opG rfl fun κ η => ?_); simp only [go_sem, Nat.reduceLT, Nat.reduceEqDiff, Nat.reduceAdd, Nat.reduceMul, Nat.reduceLeDiff, Nat.le_refl, reduceIte, reduceCtorEq, e1, e2]; refine η _ ?_; clear η κ) | (refine r_nil (hK _ ?_); clear hK K) | refine q_seq ?_ | refine c_exit ?_ | refine q_seqE ?_ | refine q_blkHit ?_ | refine q_lpE ?_
      refine c_cond _ rfl (fun hq4 => ?_) (fun hq4 => (by cases hq4))
      repeat' first | refine c_seq ?_ | refine c_reg' rfl fun K hK => ?_ | (refine r_opN fun κ η => ?_; simp only [go_sem, Nat.reduceLT, Nat.reduceEqDiff, Nat.reduceAdd, Nat.reduceMul, Nat.reduceLeDiff, Nat.le_refl, reduceIte, reduceCtorEq]; refine η _ ?_; clear η κ) | (refine r_nil (hK _ ?_); clear hK K) | refine q_seq ?_ | refine c_ret ?_ | refine q_seqR ?_ | (refine q_ret ?_; refine q_r1 ?_; simp only [go_sem, Nat.reduceLT, Nat.reduceEqDiff, Nat.reduceAdd, Nat.reduceMul, Nat.reduceLeDiff, Nat.le_refl, reduceIte, reduceCtorEq])
      rw [if_pos (.inr (.inl e2))]
    have hm := mul_in (k := k) (q := g.ins + g.ands.length) (by omega) (by omega)
    repeat' first | refine c_seq ?_ | refine c_reg' rfl fun K hK => ?_ | ((first | refine r_opN fun κ η => ?_ | refine r_opG rfl fun κ η => ?_); simp only [go_sem, Nat.reduceLT, Nat.reduceEqDiff, Nat.reduceAdd, Nat.reduceMul, Nat.reduceLeDiff, Nat.le_refl, reduceIte, reduceCtorEq, e1, e2]; (repeat refine ⟨by omega, ?_⟩); refine η _ ?_; clear η κ) | (refine r_nil (hK _ ?_); clear hK K) | refine q_seq ?_ | refine c_exit ?_ | refine q_seqE ?_ | refine q_blkHit ?_ | refine q_lpE ?_
    refine c_cond _ rfl (fun hq4 => ?_) (fun hq4 => ?_)
    · simp only [decide_eq_true_eq] at hq4
      repeat' first | refine c_seq ?_ | refine c_reg' rfl fun K hK => ?_ | (refine r_opN fun κ η => ?_; simp only [go_sem, Nat.reduceLT, Nat.reduceEqDiff, Nat.reduceAdd, Nat.reduceMul, Nat.reduceLeDiff, Nat.le_refl, reduceIte, reduceCtorEq]; refine η _ ?_; clear η κ) | (refine r_nil (hK _ ?_); clear hK K) | refine q_seq ?_ | refine c_ret ?_ | refine q_seqR ?_ | (refine q_ret ?_; refine q_r1 ?_; simp only [go_sem, Nat.reduceLT, Nat.reduceEqDiff, Nat.reduceAdd, Nat.reduceMul, Nat.reduceLeDiff, Nat.le_refl, reduceIte, reduceCtorEq])
      rw [if_pos (.inr (.inr hq4))]
    · simp only [decide_eq_false_iff_not] at hq4
      repeat' first | refine c_seq ?_ | refine c_reg' rfl fun K hK => ?_ | (refine r_opN fun κ η => ?_; simp only [go_sem, Nat.reduceLT, Nat.reduceEqDiff, Nat.reduceAdd, Nat.reduceMul, Nat.reduceLeDiff, Nat.le_refl, reduceIte, reduceCtorEq]; refine η _ ?_; clear η κ) | (refine r_nil (hK _ ?_); clear hK K) | refine q_seq ?_ | refine c_skip ?_ | refine c_ret ?_ | (refine q_ret ?_; refine q_r1 ?_; simp only [go_sem, Nat.reduceLT, Nat.reduceEqDiff, Nat.reduceAdd, Nat.reduceMul, Nat.reduceLeDiff, Nat.le_refl, reduceIte, reduceCtorEq])
      rw [if_neg (by omega)]
end Go.Proofs.Ytpbfkpdfodmcaaa
namespace Go.Proofs.Ytpbfkpdfodmcaaa
open Go.RowKit
set_option maxRecDepth 100000
set_option linter.unusedSimpArgs false
variable (Hy : World → Prop)
attribute [local irreducible] runM runD cwp seqQ blkQ lpQ retQ
/-- a row by what stands at each place -/
def mk (n : Nat) (f : Nat → Int) : List Int := (List.range n).map f
theorem mk_len (n : Nat) (f : Nat → Int) : (mk n f).length = n := by simp [mk]
theorem mk_get {n : Nat} {f : Nat → Int} {j : Nat} (h : j < n) : (mk n f)[j]? = some (f j) := by simp [mk, h]
theorem mk_set (n : Nat) (f : Nat → Int) (p : Nat) (v : Int) : (mk n f).set p v = mk n fun j => if j = p then v else f j := by
  refine List.ext_getElem? fun j => ?_
  rw [List.getElem?_set]
  by_cases hj : j < n
  · rw [mk_get hj, mk_get hj, mk_len]
    by_cases e : p = j
    · rw [if_pos e, if_pos (by omega), if_pos e.symm]
    · rw [if_neg e, if_neg (fun h => e h.symm)]
  · rw [List.getElem?_eq_none (by rw [mk_len]; omega), List.getElem?_eq_none (by rw [mk_len]; omega), mk_len]
    split
    · rw [if_neg (by omega)]
    · rfl
theorem mk_congr {n : Nat} {f h : Nat → Int} (e : ∀ j, j < n → f j = h j) : mk n f = mk n h := List.map_congr_left (fun j hj => e j (List.mem_range.1 hj))
theorem mk_succ (n : Nat) (f : Nat → Int) : mk (n + 1) f = mk n f ++ [f n] := by simp [mk, List.range_succ]
theorem mk_rep (n : Nat) : mk n (fun _ => 0) = List.replicate n 0 := by
  refine List.ext_getElem? fun j => ?_
  by_cases hj : j < n
  · rw [mk_get hj, List.getElem?_replicate, if_pos hj]
  · rw [List.getElem?_eq_none (by rw [mk_len]; omega), List.getElem?_eq_none (by simp; omega)]
def inF (f : Nat → Int) (a : Int) : Int := if a % 2 = 1 then negW (f (a / 2).toNat) else f (a / 2).toNat
theorem inW_mk {n : Nat} {f : Nat → Int} {a : Int} (h : (a / 2).toNat < n) : inW (mk n f) a = inF f a := by
  unfold inW inF
  rw [List.getD_eq_getElem?_getD, mk_get h]
  rfl
def iC (l : List Int) : List (List T) := l.map fun x => [.i .i64 x]
theorem iL_eq (l : List Int) : iL l = .sl (iC l) := rfl
theorem iC_set (l : List Int) (p : Nat) (v : Int) : (iC l).set p [.i .i64 v] = iC (l.set p v) := by simp [iC, List.map_set]
/-- the builder -/
def IsCl (o : Nat → O) (x : A) (l : List (List Int)) : Prop := (l = [] ∧ x = .nilS) ∨ ∃ n, x = .row 901 n ∧ o 901 = ⟨n, .rowA 103 1 (l.map fun c => [A.t (iL c)])⟩
def Bd (o : Nat → O) (nb : Nat) (g : G) (v : Int) (cls : List (List Int)) (lits : A) : Prop := ∃ xc, o 900 = ⟨nb, .cells 114 [.t (.i .i64 v), xc, lits, .t (.i .i64 g.ins), .t (iL g.next), .t (iL g.init), .t (pL g.ands), .t (iL g.outs)]⟩ ∧ IsCl o xc cls
def Fr (N : Nat) (o o' : Nat → O) (S : List Nat) : Prop := ∀ i, (i < N ∨ 10000 ≤ i) → i ∉ S → o' i = o i
theorem IsCl.keep {o o' : Nat → O} {x : A} {l : List (List Int)} (h : IsCl o x l) (e : o' 901 = o 901) : IsCl o' x l := by
  rcases h with h | ⟨n, h1, h2⟩
  · exact .inl h
  · exact .inr ⟨n, h1, by rw [e, h2]⟩
theorem Bd.keep {o o' : Nat → O} {nb : Nat} {g : G} {v : Int} {cls : List (List Int)} {x : A} (h : Bd o nb g v cls x) (e : o' 900 = o 900) (e2 : o' 901 = o 901) : Bd o' nb g v cls x := by
  obtain ⟨xc, h1, h2⟩ := h
  exact ⟨xc, by rw [e, h1], h2.keep e2⟩
theorem fr_nf {n : Nat} {F : Nat → A} {G : Nat → O} {ts : List (Nat × A)} {os : List (Nat × O)} {N : Nat} {S : List Nat} (h : ((os.map (·.1)).all fun p => (decide (N ≤ p) && decide (p < 10000)) || S.contains p) = true) : Fr N G (nf n F G ts os).o S :=
  fun i hi hS => lookO_other (fun p hp e => by
    subst e
    have := List.all_eq_true.1 h _ hp
    rw [Bool.or_eq_true, Bool.and_eq_true, decide_eq_true_eq, decide_eq_true_eq, List.contains_iff_mem] at this
    rcases this with h | h
    · omega
    · exact hS h)
theorem Fr.trans {N N' : Nat} {o o1 o2 : Nat → O} {S S' : List Nat} (h : Fr N o o1 S) (k : Fr N' o1 o2 S') (hn : N ≤ N') : Fr N o o2 (S ++ S') := fun i hi hs => by
  rw [k i (by omega) (fun e => hs (List.mem_append_right _ e)), h i hi (fun e => hs (List.mem_append_left _ e))]
theorem Fr.sub {N N' : Nat} {o o1 : Nat → O} {S S' : List Nat} (h : Fr N o o1 S) (hn : N' ≤ N) (hs : ∀ i ∈ S, i ∈ S') : Fr N' o o1 S' := fun i hi hn2 => h i (by omega) (fun e => hn2 (hs i e))
theorem cfirst_ct (g : G) (h : 0 ≤ g.ins ∧ g.ins ≤ 140737488355328 ∧ g.next.length ≤ 140737488355328) : Ct Try.prog Hy 97 [g.t] [.i .i64 (1 + g.ins + g.next.length)] := by
  obtain ⟨h1, h2, h3⟩ := h
  refine ct_of (cls := _root_.id) tt_ok follows_ Try.func97 rfl (by decide) (Nat.le_of_ble_eq_true rfl) ?_
  rw [show Try.f97.ntmps = 10 from rfl, s0_nf]
  simp only [List.zipIdx_cons, List.zipIdx_nil, List.map_cons, List.map_nil, Nat.reduceAdd, G.t, iL, pL]
  repeat' first | refine c_seq ?_ | refine c_reg' rfl fun K hK => ?_ | (refine r_opN fun κ η => ?_; simp only [go_sem, Nat.reduceLT, Nat.reduceEqDiff, Nat.reduceAdd, Nat.reduceMul, Nat.reduceLeDiff, Nat.le_refl, reduceIte, reduceCtorEq]; (repeat refine ⟨by omega, ?_⟩); refine η _ ?_; clear η κ) | (refine r_nil (hK _ ?_); clear hK K) | refine q_seq ?_ | refine c_ret ?_ | (refine q_ret ?_; refine q_r1 ?_; simp only [go_sem, Nat.reduceLT, Nat.reduceEqDiff, Nat.reduceAdd, Nat.reduceMul, Nat.reduceLeDiff, Nat.le_refl, reduceIte, reduceCtorEq])
theorem variable_cm {o : Nat → O} {nb : Nat} {g : G} {v : Int} {cls : List (List Int)} {lits : A} (h : Bd o nb g v cls lits) (hv : 0 ≤ v ∧ v ≤ 1000000) :
    Cm Try.prog Hy 108 [.ptr 900 nb 0] o fun rs o' => rs = [.t (.i .i64 (v + 1))] ∧ Bd o' nb g (v + 1) cls lits ∧ Fr 2000 o o' [900] := by
  obtain ⟨xc, ho, hc⟩ := h
  refine cm_of (cls := _root_.id) tt_ok follows_ Try.func108 rfl (by decide) (Nat.le_of_ble_eq_true rfl) ?_
  rw [show Try.f108.ntmps = 17 from rfl, s0_nf]
  simp only [List.zipIdx_cons, List.zipIdx_nil, List.map_cons, List.map_nil, Nat.reduceAdd]
  repeat' first | refine c_seq ?_ | refine c_reg' rfl fun K hK => ?_ | (refine r_opN fun κ η => ?_; simp only [go_sem, Nat.reduceLT, Nat.reduceEqDiff, Nat.reduceAdd, Nat.reduceMul, Nat.reduceLeDiff, Nat.le_refl, reduceIte, reduceCtorEq, ho]; (repeat refine ⟨by omega, ?_⟩); refine η _ ?_; clear η κ) | (refine r_nil (hK _ ?_); clear hK K) | refine q_seq ?_ | refine c_ret ?_ | (refine q_ret ?_; refine q_r1 ?_; simp only [go_sem, Nat.reduceLT, Nat.reduceEqDiff, Nat.reduceAdd, Nat.reduceMul, Nat.reduceLeDiff, Nat.le_refl, reduceIte, reduceCtorEq, ho])
  exact ⟨⟨xc, rfl, hc.keep rfl⟩, fr_nf rfl⟩
theorem settle_mid {o : Nat → O} {L r n k : Nat} {e ty : TypeId} {z : Nat} {l : List (List T)} {m p : List (List A)} (h1 : o L = ⟨n, .rowA e 1 (m ++ [.row r k] :: p)⟩) (h2 : o r = ⟨k, .row ty z l⟩) (hne : L ≠ r) :
    ∃ o', Stl o o' ∧ o' L = ⟨n, .rowA e 1 (m ++ [.t (.sl l)] :: p)⟩ ∧ o' r = ⟨k, .ro l⟩ ∧ ∀ i, i ≠ L → i ≠ r → o' i = o i := by
  have hk : (o r).k = .row ty z l := by rw [h2]
  have g1 : ob1 o r (.ro l) L = o L := ob1_other hne
  have g2 : ob1 o r (.ro l) r = ⟨k, .ro l⟩ := by rw [ob1_self, h2]
  refine ⟨ob1 (ob1 o r (.ro l)) L (.rowA e 1 (m ++ [.t (.sl l)] :: p)), (Stl.ro hk).trans (Stl.rowA (l := m ++ [.row r k] :: p) (by rw [g1, h1]) (by simp) (fun h x hx => ?_) (fun j x' hx => ?_)), ?_, ?_, fun i h3 h4 => ?_⟩
  · rcases List.mem_append.1 hx with hx | hx
    · exact h x (List.mem_append_left _ hx)
    · rcases List.mem_cons.1 hx with rfl | hx
      · rfl
      · exact h x (List.mem_append_right _ (List.mem_cons_of_mem _ hx))
  · rw [List.flatten_append, List.flatten_cons] at hx ⊢
    by_cases hj : j < m.flatten.length
    · rw [List.getElem?_append_left hj] at hx ⊢
      exact ⟨x', hx, .inl rfl⟩
    · rw [List.getElem?_append_right (Nat.le_of_not_lt hj)] at hx ⊢
      generalize j - m.flatten.length = i at hx ⊢
      cases i with
      | zero =>
        cases hx
        exact ⟨_, rfl, .inr ⟨r, k, l, rfl, by rw [g2], by rw [g2], rfl⟩⟩
      | succ i => exact ⟨x', by simpa using hx, .inl rfl⟩
  · rw [ob1_self, g1, h1]
  · rw [ob1_other (fun e => hne e.symm), g2]
  · rw [ob1_other h3, ob1_other h4]
theorem add_cm {o : Nat → O} {nb : Nat} {g : G} {v : Int} {cls : List (List Int)} {lits : A} (h : Bd o nb g v cls lits) {gi : Nat} {c : List Int} (hi : o 1016 = ⟨gi, .row 3 1 (iC c)⟩) (hcl : cls.length ≤ 1000000) (hcc : c.length ≤ 1000) :
    Cm Try.prog Hy 107 [.ptr 900 nb 0, .row 1016 gi] o fun rs o' => rs = [] ∧ Bd o' nb g v (cls ++ [c]) lits ∧ Fr 2000 o o' [900, 901] := by
  obtain ⟨xc, ho, hc⟩ := h
  have hz2 : (iC c).length = c.length := by simp [iC]
  refine Cm.settle (R := fun rs o' => rs = [] ∧ ∃ n k, o' 900 = ⟨nb, .cells 114 [.t (.i .i64 v), .row 901 n, lits, .t (.i .i64 g.ins), .t (iL g.next), .t (iL g.init), .t (pL g.ands), .t (iL g.outs)]⟩ ∧
      o' 901 = ⟨n, .rowA 103 1 ((cls.map fun c => [A.t (iL c)]) ++ [[.row 2010 k]])⟩ ∧ o' 2010 = ⟨k, .row 3 1 (iC c)⟩ ∧ Fr 2000 o o' [900, 901]) ?_ ?_
  · rcases hc with ⟨rfl, rfl⟩ | ⟨n, rfl, hn⟩
    · refine cm_of (cls := fun d => if d = 14 then 901 else 2000 + d) tt_ok follows_ Try.func107 rfl (by decide) (Nat.le_of_ble_eq_true rfl) ?_
      rw [show Try.f107.ntmps = 18 from rfl, s0_nf]
      simp only [List.zipIdx_cons, List.zipIdx_nil, List.map_cons, List.map_nil, Nat.reduceAdd]
      repeat' first | refine c_draw' rfl (by kernel_rfl) fun K hK => ?_ | (refine d_opN (by kernel_rfl) fun κ η => ?_; simp only [go_sem, Nat.reduceLT, Nat.reduceEqDiff, Nat.reduceAdd, Nat.reduceMul, Nat.reduceLeDiff, Nat.le_refl, reduceIte, reduceCtorEq, ho, hi, hz2]; (repeat refine ⟨by omega, ?_⟩); refine η _ ?_; clear η κ) | (refine d_nil (hK _ ?_); clear hK K) | (refine q_end ?_; refine q_r0 ?_; simp only [go_sem, Nat.reduceLT, Nat.reduceEqDiff, Nat.reduceAdd, Nat.reduceMul, Nat.reduceLeDiff, Nat.le_refl, reduceIte, reduceCtorEq, ho, hi, hz2])
      exact ⟨_, _, rfl, rfl, rfl, fr_nf rfl⟩
    · refine cm_of (cls := fun d => if d = 14 then 901 else 2000 + d) tt_ok follows_ Try.func107 rfl (by decide) (Nat.le_of_ble_eq_true rfl) ?_
      rw [show Try.f107.ntmps = 18 from rfl, s0_nf]
      simp only [List.zipIdx_cons, List.zipIdx_nil, List.map_cons, List.map_nil, Nat.reduceAdd]
      repeat' first | refine c_draw' rfl (by kernel_rfl) fun K hK => ?_ | (refine d_opN (by kernel_rfl) fun κ η => ?_; simp only [go_sem, Nat.reduceLT, Nat.reduceEqDiff, Nat.reduceAdd, Nat.reduceMul, Nat.reduceLeDiff, Nat.le_refl, reduceIte, reduceCtorEq, ho, hi, hz2, hn]; (repeat refine ⟨by omega, ?_⟩); refine η _ ?_; clear η κ) | (refine d_nil (hK _ ?_); clear hK K) | (refine q_end ?_; refine q_r0 ?_; simp only [go_sem, Nat.reduceLT, Nat.reduceEqDiff, Nat.reduceAdd, Nat.reduceMul, Nat.reduceLeDiff, Nat.le_refl, reduceIte, reduceCtorEq, ho, hi, hz2, hn])
      exact ⟨_, _, rfl, rfl, rfl, fr_nf rfl⟩
  · rintro rs o' ⟨rfl, n, k, h1, h2, h3, h4⟩
    obtain ⟨o2, s1, s2, s3, s4⟩ := settle_mid (p := []) h2 h3 (by decide)
    refine ⟨o2, s1, rfl, ⟨_, by rw [s4 900 (by decide) (by decide), h1], .inr ⟨n, rfl, by rw [s2, List.map_append]; rfl⟩⟩, fun i hi hS => ?_⟩
    rw [s4 i (fun e => hS (by simp [e])) (by omega), h4 i hi hS]
theorem row_cm {o : Nat → O} {nb : Nat} {g : G} {v : Int} {cls : List (List Int)} {lits : A} (h : Bd o nb g v cls lits) {m : List (List A)} (hl : (lits = .nilS ∧ m = []) ∨ ∃ n, lits = .row 902 n ∧ o 902 = ⟨n, .rowA 22 1 m⟩) (hm : m.length ≤ 100)
    (hg : 0 ≤ g.ins ∧ g.ins + g.next.length + g.ands.length ≤ 4000) {r : Nat} (hr : 10000 ≤ r) {N : Nat} (hN : (N : Int) = 1 + g.ins + g.next.length + g.ands.length) :
    Cm Try.prog Hy 109 [.ptr 900 nb 0] o fun rs o' => ∃ n k, rs = [.row r k] ∧ Bd o' nb g v cls (.row 902 n) ∧ o' 902 = ⟨n, .rowA 22 1 (m ++ [[.row r k]])⟩ ∧ o' r = ⟨k, .row 3 1 (iC (mk N fun j => if j = 0 then -1 else 0))⟩ ∧ Fr 2000 o o' [900, 902, r] := by
  obtain ⟨xc, ho, hc⟩ := h
  obtain ⟨N', rfl⟩ : ∃ N', N = N' + 1 := ⟨N - 1, by omega⟩
  have hNt : (1 + g.ins + ↑g.next.length + ↑g.ands.length).toNat = N' + 1 := by omega
  have hrow : ∀ x : List (List T), iC (mk (N' + 1) fun j => if j = 0 then -1 else 0) = [.i .i64 (-1)] :: List.replicate N' [.i .i64 0] := fun _ => by
    have : (mk (N' + 1) fun j => if j = 0 then -1 else 0) = (mk (N' + 1) fun _ => 0).set 0 (-1) := (mk_set _ _ _ _).symm
    rw [this, mk_rep, List.replicate_succ, List.set_cons_zero]
    simp [iC]
  rw [hrow []]
  have a1 : ¬ 900 = r := by omega
  have a2 : ¬ 902 = r := by omega
  have a3 : ¬ 2026 = r := by omega
  have b1 : ¬ r = 900 := by omega
  have b2 : ¬ r = 902 := by omega
  have b3 : ¬ r = 2026 := by omega
  have b4 : ¬ 901 = r := by omega
  have fr : ∀ {ts : List (Nat × A)} {F : Nat → A} {n : Nat} {os : List (Nat × O)}, (∀ p ∈ os.map (·.1), p = 900 ∨ p = 902 ∨ p = 2026 ∨ p = r) → Fr 2000 o (nf n F o ts os).o [900, 902, r] := fun {_ _ _ _} h i hi hS => lookO_other (fun p hp e => by
    subst e
    simp only [List.mem_cons, List.not_mem_nil, or_false, not_or] at hS
    rcases h _ hp with h | h | h | h
    · exact hS.1 h
    · exact hS.2.1 h
    · omega
    · exact hS.2.2 h)
  rcases hl with ⟨rfl, rfl⟩ | ⟨n, rfl, hn⟩
  · refine cm_of (cls := fun d => if d = 16 then r else if d = 27 then 902 else 2000 + d) tt_ok follows_ Try.func109 rfl (by decide) (Nat.le_of_ble_eq_true rfl) ?_
    rw [show Try.f109.ntmps = 32 from rfl, s0_nf]
    simp only [List.zipIdx_cons, List.zipIdx_nil, List.map_cons, List.map_nil, Nat.reduceAdd]
    repeat' first | refine c_seq ?_ | refine c_reg' rfl fun K hK => ?_ | refine c_draw' rfl (by kernel_rfl) fun K hK => ?_ | ((first | refine r_opN fun κ η => ?_ | refine d_opN (by kernel_rfl) fun κ η => ?_); simp only [go_sem, Nat.reduceLT, Nat.reduceEqDiff, Nat.reduceAdd, Nat.reduceMul, Nat.reduceLeDiff, Nat.le_refl, reduceIte, reduceCtorEq, ho]; (repeat refine ⟨by omega, ?_⟩); refine η _ ?_; clear η κ) | (refine r_nil (hK _ ?_); clear hK K) | refine q_seq ?_
    refine d_opN (by kernel_rfl) fun κ η => ?_; simp only [go_sem, Nat.reduceLT, Nat.reduceEqDiff, Nat.reduceAdd, Nat.reduceMul, Nat.reduceLeDiff, Nat.le_refl, reduceIte, reduceCtorEq, G.t, iL, pL]; refine ⟨_, cfirst_ct Hy g (by omega), ?_⟩; simp only [go_sem, Nat.reduceLT, Nat.reduceEqDiff, Nat.reduceAdd, Nat.reduceMul, Nat.reduceLeDiff, Nat.le_refl, reduceIte, reduceCtorEq, G.t, iL, pL]; refine η _ ?_; clear η κ
    repeat' first | refine c_seq ?_ | refine c_reg' rfl fun K hK => ?_ | ((first | refine r_opN fun κ η => ?_ | refine d_opN (by kernel_rfl) fun κ η => ?_); simp only [go_sem, Nat.reduceLT, Nat.reduceEqDiff, Nat.reduceAdd, Nat.reduceMul, Nat.reduceLeDiff, Nat.le_refl, reduceIte, reduceCtorEq, ho, hNt, List.replicate_succ, List.set_cons_zero, a1, a2, a3, b1, b2, b3]; (repeat refine ⟨by omega, ?_⟩); refine η _ ?_; clear η κ) | (refine r_nil (hK _ ?_); clear hK K) | refine q_seq ?_ | (refine d_nil (hK _ ?_); clear hK K) | refine c_ret ?_ | (refine q_ret ?_; refine q_r1 ?_; simp only [go_sem, Nat.reduceLT, Nat.reduceEqDiff, Nat.reduceAdd, Nat.reduceMul, Nat.reduceLeDiff, Nat.le_refl, reduceIte, reduceCtorEq, ho, hNt, List.replicate_succ, List.set_cons_zero, a1, a2, a3, b1, b2, b3])
    refine ⟨_, _, rfl, ⟨xc, rfl, hc.keep (by simp only [nf_o, lookO_cons, lookO_nil, b4, if_false]; rfl)⟩, rfl, by simp only [nf_o, lookO_cons, lookO_nil, b1, b2, b3, if_true, if_false], fr (by simp)⟩
  · refine cm_of (cls := fun d => if d = 16 then r else if d = 27 then 902 else 2000 + d) tt_ok follows_ Try.func109 rfl (by decide) (Nat.le_of_ble_eq_true rfl) ?_
    rw [show Try.f109.ntmps = 32 from rfl, s0_nf]
    simp only [List.zipIdx_cons, List.zipIdx_nil, List.map_cons, List.map_nil, Nat.reduceAdd]
    repeat' first | refine c_seq ?_ | refine c_reg' rfl fun K hK => ?_ | refine c_draw' rfl (by kernel_rfl) fun K hK => ?_ | ((first | refine r_opN fun κ η => ?_ | refine d_opN (by kernel_rfl) fun κ η => ?_); simp only [go_sem, Nat.reduceLT, Nat.reduceEqDiff, Nat.reduceAdd, Nat.reduceMul, Nat.reduceLeDiff, Nat.le_refl, reduceIte, reduceCtorEq, ho]; (repeat refine ⟨by omega, ?_⟩); refine η _ ?_; clear η κ) | (refine r_nil (hK _ ?_); clear hK K) | refine q_seq ?_
    refine d_opN (by kernel_rfl) fun κ η => ?_; simp only [go_sem, Nat.reduceLT, Nat.reduceEqDiff, Nat.reduceAdd, Nat.reduceMul, Nat.reduceLeDiff, Nat.le_refl, reduceIte, reduceCtorEq, G.t, iL, pL]; refine ⟨_, cfirst_ct Hy g (by omega), ?_⟩; simp only [go_sem, Nat.reduceLT, Nat.reduceEqDiff, Nat.reduceAdd, Nat.reduceMul, Nat.reduceLeDiff, Nat.le_refl, reduceIte, reduceCtorEq, G.t, iL, pL]; refine η _ ?_; clear η κ
    repeat' first | refine c_seq ?_ | refine c_reg' rfl fun K hK => ?_ | ((first | refine r_opN fun κ η => ?_ | refine d_opN (by kernel_rfl) fun κ η => ?_); simp only [go_sem, Nat.reduceLT, Nat.reduceEqDiff, Nat.reduceAdd, Nat.reduceMul, Nat.reduceLeDiff, Nat.le_refl, reduceIte, reduceCtorEq, ho, hNt, List.replicate_succ, List.set_cons_zero, a1, a2, a3, b1, b2, b3, hn]; (repeat refine ⟨by omega, ?_⟩); refine η _ ?_; clear η κ) | (refine r_nil (hK _ ?_); clear hK K) | refine q_seq ?_ | (refine d_nil (hK _ ?_); clear hK K) | refine c_ret ?_ | (refine q_ret ?_; refine q_r1 ?_; simp only [go_sem, Nat.reduceLT, Nat.reduceEqDiff, Nat.reduceAdd, Nat.reduceMul, Nat.reduceLeDiff, Nat.le_refl, reduceIte, reduceCtorEq, ho, hNt, List.replicate_succ, List.set_cons_zero, a1, a2, a3, b1, b2, b3, hn])
    refine ⟨_, _, rfl, ⟨xc, rfl, hc.keep (by simp only [nf_o, lookO_cons, lookO_nil, b4, if_false]; rfl)⟩, rfl, by simp only [nf_o, lookO_cons, lookO_nil, b1, b2, b3, if_true, if_false], fr (by simp)⟩
end Go.Proofs.Ytpbfkpdfodmcaaa
namespace Go.Proofs.Ytpbfkpdfodmcaaa
open Go.RowKit
set_option maxRecDepth 100000
set_option linter.unusedSimpArgs false
variable (Hy : World → Prop)
attribute [local irreducible] runM runD cwp seqQ blkQ lpQ retQ
def begV (begin : List Int) (i : Nat) : Int := if begin.getD i 0 = 0 then -1 else if begin.getD i 0 = 1 then 1 else 1 + eithN (begin.take (i + 1))
def firstF (g : G) (begin : List Int) (i j : Nat) : Int := if j = 0 then -1 else if g.ins.toNat < j ∧ j < 1 + g.ins.toNat + i then begV begin (j - 1 - g.ins.toNat) else 0
theorem firstF_succ (g : G) (begin : List Int) (i : Nat) : (fun j => if j = 1 + g.ins.toNat + i then begV begin i else firstF g begin i j) = firstF g begin (i + 1) := by
  funext j
  unfold firstF
  by_cases h : j = 1 + g.ins.toNat + i
  · rw [if_pos h, if_neg (by omega), if_pos (by omega), show j - 1 - g.ins.toNat = i by omega]
  · rw [if_neg h]
    by_cases h0 : j = 0
    · rw [if_pos h0, if_pos h0]
    · rw [if_neg h0, if_neg h0]
      by_cases h1 : g.ins.toNat < j ∧ j < 1 + g.ins.toNat + i
      · rw [if_pos h1, if_pos (by omega)]
      · rw [if_neg h1, if_neg (by omega)]
theorem firstF_zero (g : G) (begin : List Int) : firstF g begin 0 = fun j => if j = 0 then -1 else 0 := by
  funext j
  unfold firstF
  by_cases h0 : j = 0
  · rw [if_pos h0, if_pos h0]
  · rw [if_neg h0, if_neg h0, if_neg (by omega)]
theorem iC_len (l : List Int) : (iC l).length = l.length := by simp [iC]
theorem iC_get {l : List Int} {j : Nat} {x : Int} (h : l[j]? = some x) : (iC l)[j]? = some [.i .i64 x] := by simp [iC, h]
structure NbI (g : G) (begin : List Int) (N nb n k g2 : Nat) (o : Nat → O) (i : Nat) (oc : Nat → O) : Prop where
  bd : Bd oc nb g (1 + eithN (begin.take i)) [[1]] (.row 902 n)
  lt : oc 902 = ⟨n, .rowA 22 1 [[.row 10000 k]]⟩
  rw_ : oc 10000 = ⟨k, .row 3 1 (iC (mk N (firstF g begin i)))⟩
  gb : oc 1002 = ⟨g2, .cells 25 g.cells⟩
  fr : Fr 1000 o oc [900, 901, 902, 10000]
theorem newb_cm (g : G) (begin : List Int) (o : Nat → O) (hb : begin.length = g.next.length) (hbad : begin.any badB = false) (hg : 0 ≤ g.ins ∧ g.ins + g.next.length + g.ands.length ≤ 4000) {N : Nat} (hN : (N : Int) = 1 + g.ins + g.next.length + g.ands.length) :
    Cm Try.prog Hy 91 [.ag g.cells, .t (iL begin)] o fun rs o' => ∃ nb n k, rs = [.ptr 900 nb 0] ∧ Bd o' nb g (1 + eithN begin) [[1]] (.row 902 n) ∧ o' 902 = ⟨n, .rowA 22 1 [[.row 10000 k]]⟩ ∧
      o' 10000 = ⟨k, .row 3 1 (iC (mk N (firstF g begin begin.length)))⟩ ∧ Fr 1000 o o' [900, 901, 902, 10000] := by
  refine cm_of (cls := fun d => if d = 12 then 900 else 1000 + d) tt_ok follows_ Try.func91 rfl (by decide) (Nat.le_of_ble_eq_true rfl) ?_
  rw [show Try.f91.ntmps = 50 from rfl, s0_nf]
  simp only [List.zipIdx_cons, List.zipIdx_nil, List.map_cons, List.map_nil, Nat.reduceAdd, G.cells, iL, pL]
  repeat' first | refine c_seq ?_ | refine c_reg' rfl fun K hK => ?_ | (refine r_opN fun κ η => ?_; simp only [go_sem, Nat.reduceLT, Nat.reduceEqDiff, Nat.reduceAdd, Nat.reduceMul, Nat.reduceLeDiff, Nat.le_refl, reduceIte, reduceCtorEq]; refine η _ ?_; clear η κ) | (refine r_nil (hK _ ?_); clear hK K) | refine q_seq ?_
  refine r_call fun κ η => ?_; simp only [go_sem, Nat.reduceLT, Nat.reduceEqDiff, Nat.reduceAdd, Nat.reduceMul, Nat.reduceLeDiff, Nat.le_refl, reduceIte, reduceCtorEq]; refine ⟨_, variable_cm Hy (g := g) (v := 0) (cls := []) (lits := .nilS) ⟨.nilS, rfl, .inl ⟨rfl, rfl⟩⟩ (by decide), ?_⟩; rintro _ o1 ⟨rfl, hB1, hF1⟩; simp only [go_sem, Nat.reduceLT, Nat.reduceEqDiff, Nat.reduceAdd, Nat.reduceMul, Nat.reduceLeDiff, Nat.le_refl, reduceIte, reduceCtorEq]; refine η _ ?_; clear η κ
  repeat' (refine r_opN fun κ η => ?_; simp only [go_sem, Nat.reduceLT, Nat.reduceEqDiff, Nat.reduceAdd, Nat.reduceMul, Nat.reduceLeDiff, Nat.le_refl, reduceIte, reduceCtorEq]; refine η _ ?_; clear η κ)
  refine r_call fun κ η => ?_; simp only [go_sem, Nat.reduceLT, Nat.reduceEqDiff, Nat.reduceAdd, Nat.reduceMul, Nat.reduceLeDiff, Nat.le_refl, reduceIte, reduceCtorEq]; refine ⟨_, add_cm Hy (c := [1]) (by exact hB1.keep rfl rfl) (by rfl) (by decide) (by decide), ?_⟩; rintro _ o2 ⟨rfl, hB2, hF2⟩; simp only [go_sem, Nat.reduceLT, Nat.reduceEqDiff, Nat.reduceAdd, Nat.reduceMul, Nat.reduceLeDiff, Nat.le_refl, reduceIte, reduceCtorEq]; refine η _ ?_; clear η κ
  repeat' first | refine c_seq ?_ | refine c_reg' rfl fun K hK => ?_ | (refine r_opN fun κ η => ?_; simp only [go_sem, Nat.reduceLT, Nat.reduceEqDiff, Nat.reduceAdd, Nat.reduceMul, Nat.reduceLeDiff, Nat.le_refl, reduceIte, reduceCtorEq]; refine η _ ?_; clear η κ) | (refine r_nil (hK _ ?_); clear hK K) | refine q_seq ?_
  refine r_call fun κ η => ?_; simp only [go_sem, Nat.reduceLT, Nat.reduceEqDiff, Nat.reduceAdd, Nat.reduceMul, Nat.reduceLeDiff, Nat.le_refl, reduceIte, reduceCtorEq]; refine ⟨_, row_cm Hy (m := []) (r := 10000) (N := N) hB2 (.inl ⟨rfl, rfl⟩) (by decide) hg (by decide) hN, ?_⟩; rintro _ o3 ⟨n, k, rfl, hB3, hL3, hR3, hF3⟩; simp only [go_sem, Nat.reduceLT, Nat.reduceEqDiff, Nat.reduceAdd, Nat.reduceMul, Nat.reduceLeDiff, Nat.le_refl, reduceIte, reduceCtorEq]; refine η _ ?_; clear η κ
  have g3 : o3 1002 = ⟨(o 1002).gen + 1, .cells 25 g.cells⟩ := by
    rw [hF3 1002 (by decide) (by decide), hF2 1002 (by decide) (by decide)]
    exact hF1 1002 (by decide) (by decide)
  have f3 : Fr 1000 o o3 [900, 901, 902, 10000] := fun i hi hS => by
    simp only [List.mem_cons, List.not_mem_nil, or_false, not_or] at hS
    rw [hF3 i (by omega) (by simp; omega), hF2 i (by omega) (by simp; omega)]
    show (if i = 1016 then _ else o1 i) = o i
    rw [if_neg (by omega), hF1 i (by omega) (by simp; omega)]
    exact lookO_other (by simp; omega)
  repeat' first | refine c_seq ?_ | refine c_block ?_ | refine c_reg' rfl fun K hK => ?_ | (refine r_opN fun κ η => ?_; simp only [go_sem, Nat.reduceLT, Nat.reduceEqDiff, Nat.reduceAdd, Nat.reduceMul, Nat.reduceLeDiff, Nat.le_refl, reduceIte, reduceCtorEq]; refine η _ ?_; clear η κ) | (refine r_nil (hK _ ?_); clear hK K) | refine q_seq ?_
  refine c_loop (fun m s' => ∃ i : Nat, m = begin.length - i ∧ i ≤ begin.length ∧ ∃ F oc, s' = nf 50 F oc [(2, .ptr 1002 ((o 1002).gen + 1) 0), (5, .ptr 900 ((o 900).gen + 1) 0), (6, .row 10000 k), (20, .t (iL begin)), (21, .t (.i .i64 begin.length)), (22, .t (.i .i64 i))] [] ∧ NbI g begin N ((o 900).gen + 1) n k ((o 1002).gen + 1) o i oc) begin.length ?_ ?_
  · refine ⟨0, by omega, by omega, _, _, nf_of rfl ⟨rfl, rfl, rfl, rfl, rfl, rfl, trivial⟩ trivial, ⟨hB3, hL3, ?_, g3, f3⟩⟩
    exact hR3.trans (by rw [firstF_zero])
  rintro m s' ⟨i, rfl, hi, F, oc, rfl, hI⟩
  have hgb := hI.gb
  have hrw := hI.rw_
  simp only [iL, G.cells, pL] at hgb ⊢
  repeat' first | refine c_seq ?_ | refine c_reg' rfl fun K hK => ?_ | (refine r_opN fun κ η => ?_; simp only [go_sem, Nat.reduceLT, Nat.reduceEqDiff, Nat.reduceAdd, Nat.reduceMul, Nat.reduceLeDiff, Nat.le_refl, reduceIte, reduceCtorEq]; refine η _ ?_; clear η κ) | (refine r_nil (hK _ ?_); clear hK K) | refine q_seq ?_
  refine c_cond _ rfl (fun hq => ?_) (fun hq => ?_)
  · simp only [decide_eq_true_eq] at hq
    obtain ⟨x, hx⟩ : ∃ x, begin[i]? = some x := ⟨_, List.getElem?_eq_getElem (by omega)⟩
    have hxx : begin.getD i 0 = x := by rw [List.getD_eq_getElem?_getD, hx]; rfl
    have hp : (1 + g.ins + (i : Int)).toNat = 1 + g.ins.toNat + i := by omega
    have hlt : 1 + g.ins.toNat + i < N := by omega
    have hget := iC_get (mk_get (n := N) (f := firstF g begin i) hlt)
    have hlen : (iC (mk N (firstF g begin i))).length = N := by rw [iC_len, mk_len]
    have hset : ∀ v, v = begV begin i → (iC (mk N (firstF g begin i))).set (1 + g.ins.toNat + i) [.i .i64 v] = iC (mk N (firstF g begin (i + 1))) := fun v hv => by
      rw [iC_set, mk_set, hv, firstF_succ]
    have he := eithN_take hx
    have hle := eithN_le (begin.take i)
    rw [List.length_take] at hle
    have hbx : badB x = false := Bool.not_eq_true _ ▸ (List.any_eq_false.1 hbad x (List.mem_of_getElem? hx))
    replace hbx := of_decide_eq_false hbx
    have fin : ∀ {F : Nat → A} {ts : List (Nat × A)} {v : Int}, v = begV begin i → x ≠ 2 → NbI g begin N ((o 900).gen + 1) n k ((o 1002).gen + 1) o (i + 1) (nf 50 F oc ts [(10000, ⟨k, .row 3 1 ((iC (mk N (firstF g begin i))).set (1 + g.ins.toNat + i) [.i .i64 v])⟩)]).o := fun hv h2 => by
      rw [if_neg h2, Int.add_zero] at he
      refine ⟨?_, hI.lt, ?_, hI.gb, fun j hj hS => ?_⟩
      · rw [he]
        exact hI.bd.keep rfl rfl
      · rw [← hset _ hv]
        rfl
      · rw [← hI.fr j hj hS]
        exact if_neg (fun e => hS (by simp [e]))
    repeat' first | refine c_seq ?_ | refine c_block ?_ | refine c_reg' rfl fun K hK => ?_ | (refine r_opN fun κ η => ?_; simp only [go_sem, Nat.reduceLT, Nat.reduceEqDiff, Nat.reduceAdd, Nat.reduceMul, Nat.reduceLeDiff, Nat.le_refl, reduceIte, reduceCtorEq, hx, hgb]; (repeat refine ⟨by omega, ?_⟩); refine η _ ?_; clear η κ) | (refine r_nil (hK _ ?_); clear hK K) | refine q_seq ?_ | refine c_skip ?_
    refine c_cond _ rfl (fun h0 => ?_) (fun h0 => ?_)
    · simp only [decide_eq_true_eq] at h0
      repeat' first | refine c_reg' rfl fun K hK => ?_ | (refine r_opN fun κ η => ?_; simp only [go_sem, Nat.reduceLT, Nat.reduceEqDiff, Nat.reduceAdd, Nat.reduceMul, Nat.reduceLeDiff, Nat.le_refl, reduceIte, reduceCtorEq, hrw, hp, hget, hlen]; (repeat refine ⟨by omega, ?_⟩); refine η _ ?_; clear η κ) | (refine r_nil (hK _ ?_); clear hK K) | refine q_seq ?_ | refine q_blk ?_ | refine q_lpN ?_
      exact ⟨begin.length - (i + 1), by omega, i + 1, rfl, by omega, _, _, nf_of rfl ⟨rfl, rfl, rfl, rfl, rfl, rfl, trivial⟩ trivial, fin (by rw [begV, hxx, if_pos h0]) (by omega)⟩
    simp only [decide_eq_false_iff_not] at h0
    repeat' first | refine c_seq ?_ | refine c_reg' rfl fun K hK => ?_ | (refine r_opN fun κ η => ?_; simp only [go_sem, Nat.reduceLT, Nat.reduceEqDiff, Nat.reduceAdd, Nat.reduceMul, Nat.reduceLeDiff, Nat.le_refl, reduceIte, reduceCtorEq]; refine η _ ?_; clear η κ) | (refine r_nil (hK _ ?_); clear hK K) | refine q_seq ?_
    refine c_cond _ rfl (fun h1 => ?_) (fun h1 => ?_)
    · simp only [decide_eq_true_eq] at h1
      repeat' first | refine c_reg' rfl fun K hK => ?_ | (refine r_opN fun κ η => ?_; simp only [go_sem, Nat.reduceLT, Nat.reduceEqDiff, Nat.reduceAdd, Nat.reduceMul, Nat.reduceLeDiff, Nat.le_refl, reduceIte, reduceCtorEq, hrw, hp, hget, hlen]; (repeat refine ⟨by omega, ?_⟩); refine η _ ?_; clear η κ) | (refine r_nil (hK _ ?_); clear hK K) | refine q_seq ?_ | refine q_blk ?_ | refine q_lpN ?_
      exact ⟨begin.length - (i + 1), by omega, i + 1, rfl, by omega, _, _, nf_of rfl ⟨rfl, rfl, rfl, rfl, rfl, rfl, trivial⟩ trivial, fin (by rw [begV, hxx, if_neg h0, if_pos h1]) (by omega)⟩
    simp only [decide_eq_false_iff_not] at h1
    have h2 : x = 2 := by omega
    rw [if_pos h2] at he
    repeat' first | refine c_reg' rfl fun K hK => ?_ | (refine r_opN fun κ η => ?_; simp only [go_sem, Nat.reduceLT, Nat.reduceEqDiff, Nat.reduceAdd, Nat.reduceMul, Nat.reduceLeDiff, Nat.le_refl, reduceIte, reduceCtorEq]; refine η _ ?_; clear η κ)
    refine r_call fun κ η => ?_; simp only [go_sem, Nat.reduceLT, Nat.reduceEqDiff, Nat.reduceAdd, Nat.reduceMul, Nat.reduceLeDiff, Nat.le_refl, reduceIte, reduceCtorEq]; refine ⟨_, variable_cm Hy (by exact hI.bd) (by omega), ?_⟩; rintro _ o4 ⟨rfl, hB4, hF4⟩; simp only [go_sem, Nat.reduceLT, Nat.reduceEqDiff, Nat.reduceAdd, Nat.reduceMul, Nat.reduceLeDiff, Nat.le_refl, reduceIte, reduceCtorEq]; refine η _ ?_; clear η κ
    have h4 := (hF4 10000 (by decide) (by decide)).trans hrw
    repeat' first | refine c_reg' rfl fun K hK => ?_ | (refine r_opN fun κ η => ?_; simp only [go_sem, Nat.reduceLT, Nat.reduceEqDiff, Nat.reduceAdd, Nat.reduceMul, Nat.reduceLeDiff, Nat.le_refl, reduceIte, reduceCtorEq, h4, hp, hget, hlen]; (repeat refine ⟨by omega, ?_⟩); refine η _ ?_; clear η κ) | (refine r_nil (hK _ ?_); clear hK K) | refine q_seq ?_ | refine q_blk ?_ | refine q_lpN ?_
    refine ⟨begin.length - (i + 1), by omega, i + 1, rfl, by omega, _, _, nf_of rfl ⟨rfl, rfl, rfl, rfl, rfl, rfl, trivial⟩ trivial, ?_, ?_, ?_, ?_, fun j hj hS => ?_⟩
    · rw [he, ← Int.add_assoc]
      exact hB4.keep rfl rfl
    · exact (hF4 902 (by decide) (by decide)).trans hI.lt
    · rw [← hset _ (show 1 + (eithN (begin.take i) : Int) + 1 = begV begin i by rw [begV, hxx, if_neg h0, if_neg h1, he, Int.add_assoc])]
      rfl
    · exact (hF4 1002 (by decide) (by decide)).trans hI.gb
    · rw [← hI.fr j hj hS]
      refine (if_neg (fun e => hS (by simp [e]))).trans (hF4 j (by omega) (fun e => hS ?_))
      simp only [List.mem_cons, List.not_mem_nil, or_false] at e ⊢
      exact .inl e
  · simp only [decide_eq_false_iff_not] at hq
    obtain rfl : i = begin.length := by omega
    repeat' first | refine c_seq ?_ | refine c_reg' rfl fun K hK => ?_ | (refine r_opN fun κ η => ?_; simp only [go_sem, Nat.reduceLT, Nat.reduceEqDiff, Nat.reduceAdd, Nat.reduceMul, Nat.reduceLeDiff, Nat.le_refl, reduceIte, reduceCtorEq]; refine η _ ?_; clear η κ) | (refine r_nil (hK _ ?_); clear hK K) | refine q_seq ?_ | refine c_exit ?_ | refine c_ret ?_ | refine q_seqE ?_ | refine q_blkHit ?_ | refine q_lpE ?_ | (refine q_ret ?_; refine q_r1 ?_; simp only [go_sem, Nat.reduceLT, Nat.reduceEqDiff, Nat.reduceAdd, Nat.reduceMul, Nat.reduceLeDiff, Nat.le_refl, reduceIte, reduceCtorEq])
    refine ⟨_, n, k, rfl, ?_, hI.lt, hI.rw_, hI.fr⟩
    have := hI.bd
    rw [List.take_length] at this
    exact this
end Go.Proofs.Ytpbfkpdfodmcaaa
