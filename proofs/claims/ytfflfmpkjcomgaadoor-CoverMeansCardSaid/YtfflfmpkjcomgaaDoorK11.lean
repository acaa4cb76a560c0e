import Derived.Test.YtfflfmpkjcomgaaDoorK10
namespace Go.Proofs.YtfflfmpkjcomgaaDoor
open Go.RowKit
set_option maxRecDepth 100000
set_option linter.unusedSimpArgs false
variable (Hy : World → Prop)
attribute [local irreducible] runM runD cwp seqQ blkQ lpQ retQ asQ bdQ bdY retP endR preD retD
/-- a form that is left out, if it is just true -/
def restF : List Fm → List Fm
  | [] => []
  | f :: l => if f.k = 1 then [] else f :: l
def kidsN (ls : List Li) (rest : List Fm) : Nat := ls.length + if restF rest = [] then 0 else 1
def allOfF (ls : List Li) (rest : List Fm) : List Fm := (if 1 < kidsN ls rest then [⟨3, 0, kidsN ls rest⟩] else []) ++ (ls.map formL ++ restF rest)
theorem restF_len (rest : List Fm) : (restF rest).length ≤ rest.length := by
  cases rest with
  | nil => exact Nat.le_refl _
  | cons f l =>
    show (if f.k = 1 then [] else f :: l).length ≤ _
    split
    · exact Nat.zero_le _
    · exact Nat.le_refl _
set_option maxHeartbeats 8000000 in
theorem allOf_ct (ls : List Li) (rest : List Fm) (hl : ls.length ≤ 1000000) (hp : ∀ x ∈ ls, x.p ≤ 1000000) (hr : rest.length ≤ 100000000) : Ct Tryd.prog Hy 54 [lL ls, fL rest] [fL (allOfF ls rest)] := by
  refine ct_of (cls := _root_.id) tt_ok follows_ Tryd.func54 rfl (by decide) (Nat.le_of_ble_eq_true rfl) ?_
  rw [show Tryd.f54.ntmps = 45 from rfl, s0_nf]
  simp only [List.zipIdx_cons, List.zipIdx_nil, List.map_cons, List.map_nil, Nat.reduceAdd, lL]
  refine c_seq ?_
  repeat' first | refine c_reg' rfl fun K E hK hE => ?_ | (refine r_opN fun κ η => ?_; simp only [go_sem, Nat.reduceLT, Nat.reduceEqDiff, Nat.reduceAdd, Nat.reduceMul, Nat.reduceLeDiff, Nat.le_refl, reduceIte, reduceCtorEq]; refine η _ ?_; clear η κ) | (refine r_nil (hK _ ?_); clear hE hK E K) | refine q_seq ?_
  refine c_seq ?_
  repeat' first | refine c_reg' rfl fun K E hK hE => ?_ | (refine r_opN fun κ η => ?_; simp only [go_sem, Nat.reduceLT, Nat.reduceEqDiff, Nat.reduceAdd, Nat.reduceMul, Nat.reduceLeDiff, Nat.le_refl, reduceIte, reduceCtorEq]; refine η _ ?_; clear η κ) | (refine r_nil (hK _ ?_); clear hE hK E K) | refine q_seq ?_
  refine c_cut (fun s => ∃ F oc r1, s = nf 45 F oc [(0, .t (lL ls)), (1, r1), (5, .t (.i .i64 (kidsN ls rest)))] [] ∧ ((restF rest = [] ∧ r1 = .nilS) ∨ (restF rest ≠ [] ∧ r1 = .t (fL (restF rest))))) ?_ ?_
  rotate_left
  · intro N hN
    cases rest with
    | nil =>
      repeat' first | refine c_seq ?_ | refine c_reg' rfl fun K E hK hE => ?_ | ((first | refine r_opN fun κ η => ?_ | refine r_opG rfl fun κ η => ?_); simp only [go_sem, Nat.reduceLT, Nat.reduceEqDiff, Nat.reduceAdd, Nat.reduceMul, Nat.reduceLeDiff, Nat.le_refl, reduceIte, reduceCtorEq, fL, List.map_nil, List.length_nil, Int.natCast_zero, Int.lt_irrefl]; refine η _ ?_; clear η κ) | (refine r_nil (hK _ ?_); clear hE hK E K) | refine q_seq ?_
      refine c_cond _ rfl (fun hq => (by cases hq)) (fun hq => ?_)
      repeat' first | refine c_reg' rfl fun K E hK hE => ?_ | (refine r_opN fun κ η => ?_; simp only [go_sem, Nat.reduceLT, Nat.reduceEqDiff, Nat.reduceAdd, Nat.reduceMul, Nat.reduceLeDiff, Nat.le_refl, reduceIte, reduceCtorEq]; refine η _ ?_; clear η κ) | (refine r_nil (hK _ ?_); clear hE hK E K) | refine q_seq ?_
      exact hN _ ⟨_, _, _, nf_of rfl ⟨rfl, rfl, rfl, trivial⟩ trivial, .inl ⟨rfl, rfl⟩⟩
    | cons f l =>
      rw [List.length_cons] at hr
      have hpos : (0 : Int) < ((l.length + 1 : Nat) : Int) := by omega
      by_cases c1 : f.k = 1
      · have hrf : restF (f :: l) = [] := by show (if f.k = 1 then [] else f :: l) = _; rw [if_pos c1]
        have hkn : kidsN ls (f :: l) = ls.length := by rw [kidsN, if_pos hrf]; rfl
        rw [hkn, hrf] at hN
        repeat' first | refine c_seq ?_ | refine c_reg' rfl fun K E hK hE => ?_ | ((first | refine r_opN fun κ η => ?_ | refine r_opG rfl fun κ η => ?_); simp only [go_sem, Nat.reduceLT, Nat.reduceEqDiff, Nat.reduceAdd, Nat.reduceMul, Nat.reduceLeDiff, Nat.le_refl, reduceIte, reduceCtorEq, fL, List.map_cons, List.length_cons, List.length_map, hpos, c1]; (repeat refine ⟨by omega, ?_⟩); refine η _ ?_; clear η κ) | (refine r_nil (hK _ ?_); clear hE hK E K) | refine q_seq ?_
        refine c_cond _ rfl (fun hq => (by cases hq)) (fun hq => ?_)
        repeat' first | refine c_reg' rfl fun K E hK hE => ?_ | (refine r_opN fun κ η => ?_; simp only [go_sem, Nat.reduceLT, Nat.reduceEqDiff, Nat.reduceAdd, Nat.reduceMul, Nat.reduceLeDiff, Nat.le_refl, reduceIte, reduceCtorEq]; refine η _ ?_; clear η κ) | (refine r_nil (hK _ ?_); clear hE hK E K) | refine q_seq ?_
        exact hN _ ⟨_, _, _, nf_of rfl ⟨rfl, rfl, rfl, trivial⟩ trivial, .inl ⟨rfl, rfl⟩⟩
      · have hrf : restF (f :: l) = f :: l := by show (if f.k = 1 then [] else f :: l) = _; rw [if_neg c1]
        have hkn : kidsN ls (f :: l) = ls.length + 1 := by rw [kidsN, hrf]; rfl
        rw [hkn, hrf] at hN
        repeat' first | refine c_seq ?_ | refine c_reg' rfl fun K E hK hE => ?_ | ((first | refine r_opN fun κ η => ?_ | refine r_opG rfl fun κ η => ?_); simp only [go_sem, Nat.reduceLT, Nat.reduceEqDiff, Nat.reduceAdd, Nat.reduceMul, Nat.reduceLeDiff, Nat.le_refl, reduceIte, reduceCtorEq, fL, List.map_cons, List.length_cons, List.length_map, hpos, c1]; (repeat refine ⟨by omega, ?_⟩); refine η _ ?_; clear η κ) | (refine r_nil (hK _ ?_); clear hE hK E K) | refine q_seq ?_
        refine c_cond _ rfl (fun hq => ?_) (fun hq => (by cases hq))
        repeat' first | refine c_reg' rfl fun K E hK hE => ?_ | (refine r_opN fun κ η => ?_; simp only [go_sem, Nat.reduceLT, Nat.reduceEqDiff, Nat.reduceAdd, Nat.reduceMul, Nat.reduceLeDiff, Nat.le_refl, reduceIte, reduceCtorEq]; (repeat refine ⟨by omega, ?_⟩); refine η _ ?_; clear η κ) | (refine r_nil (hK _ ?_); clear hE hK E K) | refine q_seq ?_
        exact hN _ ⟨_, _, _, nf_of rfl ⟨rfl, rfl, rfl, trivial⟩ trivial, .inr ⟨by simp, rfl⟩⟩
  rintro s ⟨F, oc, r1, rfl, hr1⟩
  have hkl : kidsN ls rest ≤ ls.length + 1 := by unfold kidsN; split <;> omega
  have hrl := restF_len rest
  have hz := fm3 (allOfF ls rest)
  have hzr := eq_true (fm3 (restF rest))
  unfold allOfF at hz ⊢
  generalize kidsN ls rest = K at *
  generalize restF rest = R at *
  have hform : ∀ (k : Nat) x, ls[k]? = some x → Ct Tryd.prog Hy 89 [.ag [.i .i64 x.p, .i .i64 x.c.toNat]] [.ag [.i .i64 (formL x).k, .i .i64 (formL x).lit, .i .i64 (formL x).kids]] := fun k x hx => lform_ct Hy x (hp x (List.mem_of_getElem? hx))
  have htk : ∀ (k : Nat) x, ls[k]? = some x → ((ls.take (k + 1)).map formL).map fE = ((ls.take k).map formL).map fE ++ [[.i .i64 (formL x).k, .i .i64 (formL x).lit, .i .i64 (formL x).kids]] := fun k x hx => by
    rw [List.take_add_one, hx, List.map_append, List.map_append]
    rfl
  by_cases cK : 1 < K
  · rw [if_pos cK] at hz ⊢
    have hKi : (1 : Int) < K := by omega
    refine c_seq ?_
    repeat' first | refine c_seq ?_ | refine c_reg' rfl fun K E hK hE => ?_ | (refine r_opN fun κ η => ?_; simp only [go_sem, Nat.reduceLT, Nat.reduceEqDiff, Nat.reduceAdd, Nat.reduceMul, Nat.reduceLeDiff, Nat.le_refl, reduceIte, reduceCtorEq, hKi]; refine η _ ?_; clear η κ) | (refine r_nil (hK _ ?_); clear hE hK E K) | refine q_seq ?_
    refine c_cond _ rfl (fun hq => ?_) (fun hq => (by simp at hq))
    repeat' first | refine c_seq ?_ | refine c_block ?_ | refine c_reg' rfl fun K E hK hE => ?_ | (refine r_opN fun κ η => ?_; simp only [go_sem, Nat.reduceLT, Nat.reduceEqDiff, Nat.reduceAdd, Nat.reduceMul, Nat.reduceLeDiff, Nat.le_refl, reduceIte, reduceCtorEq, lL]; refine η _ ?_; clear η κ) | (refine r_nil (hK _ ?_); clear hE hK E K) | refine q_seq ?_
    refine c_loop (fun m s' => ∃ k : Nat, m = ls.length - k ∧ k ≤ ls.length ∧ ∃ F G0 q, s' = nf 45 F G0 [(1, r1), (6, .row 29 q), (30, .t (lL ls)), (31, .t (.i .i64 ls.length)), (32, .t (.i .i64 k))] [] ∧ G0 29 = ⟨q, .row 52 3 ([.i .i64 3, .i .i64 0, .i .i64 K] :: ((ls.take k).map formL).map fE)⟩) ls.length ?_ ?_
    · exact ⟨0, by omega, by omega, _, _, _, nf_of rfl ⟨rfl, rfl, rfl, rfl, rfl, trivial⟩ trivial, rfl⟩
    rintro m s' ⟨k, rfl, hk, F, G0, q, rfl, h29⟩
    simp only [lL]
    repeat' first | refine c_seq ?_ | refine c_reg' rfl fun K E hK hE => ?_ | (refine r_opN fun κ η => ?_; simp only [go_sem, Nat.reduceLT, Nat.reduceEqDiff, Nat.reduceAdd, Nat.reduceMul, Nat.reduceLeDiff, Nat.le_refl, reduceIte, reduceCtorEq]; refine η _ ?_; clear η κ) | (refine r_nil (hK _ ?_); clear hE hK E K) | refine q_seq ?_
    refine c_cond _ rfl (fun hq => ?_) (fun hq => ?_)
    · simp only [decide_eq_true_eq] at hq
      obtain ⟨x, hx⟩ : ∃ x, ls[k]? = some x := ⟨_, List.getElem?_eq_getElem (by omega)⟩
      have hf := hform k x hx
      have hs := htk k x hx
      have hlen : (((ls.take k).map formL).map fE).length ≤ 1000000 := by rw [List.length_map, List.length_map, List.length_take]; omega
      generalize ((ls.take k).map formL).map fE = rw0 at h29 hs hlen
      repeat' first | refine c_seq ?_ | refine c_block ?_ | refine c_reg' rfl fun K E hK hE => ?_ | (refine r_opN fun κ η => ?_; simp only [go_sem, Nat.reduceLT, Nat.reduceEqDiff, Nat.reduceAdd, Nat.reduceMul, Nat.reduceLeDiff, Nat.le_refl, reduceIte, reduceCtorEq, hx]; (repeat refine ⟨by omega, ?_⟩); refine η _ ?_; clear η κ) | (refine r_nil (hK _ ?_); clear hE hK E K) | refine q_seq ?_ | refine c_skip ?_
      refine r_opN fun κ η => ?_; simp only [go_sem, Nat.reduceLT, Nat.reduceEqDiff, Nat.reduceAdd, Nat.reduceMul, Nat.reduceLeDiff, Nat.le_refl, reduceIte, reduceCtorEq]; refine ⟨_, hf, ?_⟩; simp only [go_sem, Nat.reduceLT, Nat.reduceEqDiff, Nat.reduceAdd, Nat.reduceMul, Nat.reduceLeDiff, Nat.le_refl, reduceIte, reduceCtorEq]; refine η _ ?_; clear η κ
      repeat' first | refine c_reg' rfl fun K E hK hE => ?_ | (refine r_opN fun κ η => ?_; simp only [go_sem, Nat.reduceLT, Nat.reduceEqDiff, Nat.reduceAdd, Nat.reduceMul, Nat.reduceLeDiff, Nat.le_refl, reduceIte, reduceCtorEq, h29]; (repeat refine ⟨by omega, ?_⟩); refine η _ ?_; clear η κ) | (refine r_nil (hK _ ?_); clear hE hK E K) | refine q_seq ?_ | refine q_blk ?_ | refine q_lpN ?_
      exact ⟨ls.length - (k + 1), by omega, k + 1, rfl, by omega, _, _, _, nf_of rfl ⟨rfl, rfl, rfl, rfl, rfl, trivial⟩ trivial, by rw [hs]; rfl⟩
    · simp only [decide_eq_false_iff_not] at hq
      rw [List.take_of_length_le (by omega)] at h29
      have hlen : ((ls.map formL).map fE).length ≤ 1000000 := by rw [List.length_map, List.length_map]; omega
      rcases hr1 with ⟨rfl, rfl⟩ | ⟨hne, rfl⟩
      · have h29 : G0 29 = ⟨q, .row 52 3 (([(⟨3, 0, K⟩ : Fm)] ++ (ls.map formL ++ [])).map fun (f : Fm) => [T.i .i64 f.k, T.i .i64 f.lit, T.i .i64 f.kids])⟩ := by rw [h29, List.append_nil]; rfl
        repeat' first | refine c_seq ?_ | refine c_reg' rfl fun K E hK hE => ?_ | (refine r_opN fun κ η => ?_; simp only [go_sem, Nat.reduceLT, Nat.reduceEqDiff, Nat.reduceAdd, Nat.reduceMul, Nat.reduceLeDiff, Nat.le_refl, reduceIte, reduceCtorEq, h29]; (repeat refine ⟨by omega, ?_⟩); refine η _ ?_; clear η κ) | (refine r_nil (hK _ ?_); clear hE hK E K) | refine q_seq ?_ | refine c_exit ?_ | refine c_ret ?_ | refine q_seqE ?_ | refine q_blkHit ?_ | refine q_lpE ?_ | (refine q_ret ?_; refine q_r1 ?_; simp only [go_sem, Nat.reduceLT, Nat.reduceEqDiff, Nat.reduceAdd, Nat.reduceMul, Nat.reduceLeDiff, Nat.le_refl, reduceIte, reduceCtorEq, h29])
        rfl
      · have hfin : ((ls.map formL ++ R).map fun f => [T.i .i64 f.k, T.i .i64 f.lit, T.i .i64 f.kids]) = (ls.map formL).map fE ++ R.map fun f => [T.i .i64 f.k, T.i .i64 f.lit, T.i .i64 f.kids] := by rw [List.map_append]; rfl
        generalize (ls.map formL).map fE = rw0 at *
        repeat' first | refine c_seq ?_ | refine c_reg' rfl fun K E hK hE => ?_ | (refine r_opN fun κ η => ?_; simp only [go_sem, Nat.reduceLT, Nat.reduceEqDiff, Nat.reduceAdd, Nat.reduceMul, Nat.reduceLeDiff, Nat.le_refl, reduceIte, reduceCtorEq, h29, fL, hzr]; (repeat refine ⟨by omega, ?_⟩); refine η _ ?_; clear η κ) | (refine r_nil (hK _ ?_); clear hE hK E K) | refine q_seq ?_ | refine c_exit ?_ | refine c_ret ?_ | refine q_seqE ?_ | refine q_blkHit ?_ | refine q_lpE ?_ | (refine q_ret ?_; refine q_r1 ?_; simp only [go_sem, Nat.reduceLT, Nat.reduceEqDiff, Nat.reduceAdd, Nat.reduceMul, Nat.reduceLeDiff, Nat.le_refl, reduceIte, reduceCtorEq, h29, fL, hzr])
        rw [hfin]
  · rw [if_neg cK] at hz ⊢
    rw [List.nil_append] at hz ⊢
    have hKi : ¬ (1 : Int) < K := by omega
    refine c_seq ?_
    repeat' first | refine c_seq ?_ | refine c_reg' rfl fun K E hK hE => ?_ | (refine r_opN fun κ η => ?_; simp only [go_sem, Nat.reduceLT, Nat.reduceEqDiff, Nat.reduceAdd, Nat.reduceMul, Nat.reduceLeDiff, Nat.le_refl, reduceIte, reduceCtorEq, hKi]; refine η _ ?_; clear η κ) | (refine r_nil (hK _ ?_); clear hE hK E K) | refine q_seq ?_
    refine c_cond _ rfl (fun hq => (by simp at hq)) (fun hq => ?_)
    repeat' first | refine c_seq ?_ | refine c_block ?_ | refine c_reg' rfl fun K E hK hE => ?_ | (refine r_opN fun κ η => ?_; simp only [go_sem, Nat.reduceLT, Nat.reduceEqDiff, Nat.reduceAdd, Nat.reduceMul, Nat.reduceLeDiff, Nat.le_refl, reduceIte, reduceCtorEq, lL]; refine η _ ?_; clear η κ) | (refine r_nil (hK _ ?_); clear hE hK E K) | refine q_seq ?_ | refine c_skip ?_
    refine c_loop (fun m s' => ∃ k : Nat, m = ls.length - k ∧ k ≤ ls.length ∧ ∃ F G0 xx, s' = nf 45 F G0 [(1, r1), (6, xx), (30, .t (lL ls)), (31, .t (.i .i64 ls.length)), (32, .t (.i .i64 k))] [] ∧ Acc G0 40 52 3 (((ls.take k).map formL).map fE) xx) ls.length ?_ ?_
    · exact ⟨0, by omega, by omega, _, _, _, nf_of rfl ⟨rfl, rfl, rfl, rfl, rfl, trivial⟩ trivial, .inl ⟨rfl, rfl⟩⟩
    rintro m s' ⟨k, rfl, hk, F, G0, xx, rfl, hxx⟩
    simp only [lL]
    repeat' first | refine c_seq ?_ | refine c_reg' rfl fun K E hK hE => ?_ | (refine r_opN fun κ η => ?_; simp only [go_sem, Nat.reduceLT, Nat.reduceEqDiff, Nat.reduceAdd, Nat.reduceMul, Nat.reduceLeDiff, Nat.le_refl, reduceIte, reduceCtorEq]; refine η _ ?_; clear η κ) | (refine r_nil (hK _ ?_); clear hE hK E K) | refine q_seq ?_
    refine c_cond _ rfl (fun hq => ?_) (fun hq => ?_)
    · simp only [decide_eq_true_eq] at hq
      obtain ⟨x, hx⟩ : ∃ x, ls[k]? = some x := ⟨_, List.getElem?_eq_getElem (by omega)⟩
      have hf := hform k x hx
      have hs := htk k x hx
      have hlen : (((ls.take k).map formL).map fE).length ≤ 1000000 := by rw [List.length_map, List.length_map, List.length_take]; omega
      generalize ((ls.take k).map formL).map fE = rw0 at hxx hs hlen
      rcases hxx with ⟨rfl, rfl⟩ | ⟨q, rfl, hr2⟩
      · repeat' first | refine c_seq ?_ | refine c_block ?_ | refine c_reg' rfl fun K E hK hE => ?_ | (refine r_opN fun κ η => ?_; simp only [go_sem, Nat.reduceLT, Nat.reduceEqDiff, Nat.reduceAdd, Nat.reduceMul, Nat.reduceLeDiff, Nat.le_refl, reduceIte, reduceCtorEq, hx]; (repeat refine ⟨by omega, ?_⟩); refine η _ ?_; clear η κ) | (refine r_nil (hK _ ?_); clear hE hK E K) | refine q_seq ?_ | refine c_skip ?_
        refine r_opN fun κ η => ?_; simp only [go_sem, Nat.reduceLT, Nat.reduceEqDiff, Nat.reduceAdd, Nat.reduceMul, Nat.reduceLeDiff, Nat.le_refl, reduceIte, reduceCtorEq]; refine ⟨_, hf, ?_⟩; simp only [go_sem, Nat.reduceLT, Nat.reduceEqDiff, Nat.reduceAdd, Nat.reduceMul, Nat.reduceLeDiff, Nat.le_refl, reduceIte, reduceCtorEq]; refine η _ ?_; clear η κ
        repeat' first | refine c_reg' rfl fun K E hK hE => ?_ | (refine r_opN fun κ η => ?_; simp only [go_sem, Nat.reduceLT, Nat.reduceEqDiff, Nat.reduceAdd, Nat.reduceMul, Nat.reduceLeDiff, Nat.le_refl, reduceIte, reduceCtorEq]; (repeat refine ⟨by omega, ?_⟩); refine η _ ?_; clear η κ) | (refine r_nil (hK _ ?_); clear hE hK E K) | refine q_seq ?_ | refine q_blk ?_ | refine q_lpN ?_
        exact ⟨ls.length - (k + 1), by omega, k + 1, rfl, by omega, _, _, _, nf_of rfl ⟨rfl, rfl, rfl, rfl, rfl, trivial⟩ trivial, .inr ⟨_, rfl, by rw [hs]; rfl⟩⟩
      · repeat' first | refine c_seq ?_ | refine c_block ?_ | refine c_reg' rfl fun K E hK hE => ?_ | (refine r_opN fun κ η => ?_; simp only [go_sem, Nat.reduceLT, Nat.reduceEqDiff, Nat.reduceAdd, Nat.reduceMul, Nat.reduceLeDiff, Nat.le_refl, reduceIte, reduceCtorEq, hx]; (repeat refine ⟨by omega, ?_⟩); refine η _ ?_; clear η κ) | (refine r_nil (hK _ ?_); clear hE hK E K) | refine q_seq ?_ | refine c_skip ?_
        refine r_opN fun κ η => ?_; simp only [go_sem, Nat.reduceLT, Nat.reduceEqDiff, Nat.reduceAdd, Nat.reduceMul, Nat.reduceLeDiff, Nat.le_refl, reduceIte, reduceCtorEq]; refine ⟨_, hf, ?_⟩; simp only [go_sem, Nat.reduceLT, Nat.reduceEqDiff, Nat.reduceAdd, Nat.reduceMul, Nat.reduceLeDiff, Nat.le_refl, reduceIte, reduceCtorEq]; refine η _ ?_; clear η κ
        repeat' first | refine c_reg' rfl fun K E hK hE => ?_ | (refine r_opN fun κ η => ?_; simp only [go_sem, Nat.reduceLT, Nat.reduceEqDiff, Nat.reduceAdd, Nat.reduceMul, Nat.reduceLeDiff, Nat.le_refl, reduceIte, reduceCtorEq, hr2]; (repeat refine ⟨by omega, ?_⟩); refine η _ ?_; clear η κ) | (refine r_nil (hK _ ?_); clear hE hK E K) | refine q_seq ?_ | refine q_blk ?_ | refine q_lpN ?_
        exact ⟨ls.length - (k + 1), by omega, k + 1, rfl, by omega, _, _, _, nf_of rfl ⟨rfl, rfl, rfl, rfl, rfl, trivial⟩ trivial, .inr ⟨_, rfl, by rw [hs]; rfl⟩⟩
    · simp only [decide_eq_false_iff_not] at hq
      rw [List.take_of_length_le (by omega)] at hxx
      have hlen : ((ls.map formL).map fE).length ≤ 1000000 := by rw [List.length_map, List.length_map]; omega
      have hfin : ((ls.map formL ++ R).map fun f => [T.i .i64 f.k, T.i .i64 f.lit, T.i .i64 f.kids]) = (ls.map formL).map fE ++ R.map fun f => [T.i .i64 f.k, T.i .i64 f.lit, T.i .i64 f.kids] := by rw [List.map_append]; rfl
      generalize hrw : (ls.map formL).map fE = rw0 at *
      rcases hr1 with ⟨rfl, rfl⟩ | ⟨hne, rfl⟩
      · rw [List.append_nil, show fL (ls.map formL) = .sl ((ls.map formL).map fE) from rfl, hrw]
        rcases hxx with ⟨rfl, rfl⟩ | ⟨q, rfl, hr2⟩
        · repeat' first | refine c_seq ?_ | refine c_reg' rfl fun K E hK hE => ?_ | (refine r_opN fun κ η => ?_; simp only [go_sem, Nat.reduceLT, Nat.reduceEqDiff, Nat.reduceAdd, Nat.reduceMul, Nat.reduceLeDiff, Nat.le_refl, reduceIte, reduceCtorEq]; refine η _ ?_; clear η κ) | (refine r_nil (hK _ ?_); clear hE hK E K) | refine q_seq ?_ | refine c_exit ?_ | refine c_ret ?_ | refine q_seqE ?_ | refine q_blkHit ?_ | refine q_lpE ?_ | (refine q_ret ?_; refine q_r1 ?_; simp only [go_sem, Nat.reduceLT, Nat.reduceEqDiff, Nat.reduceAdd, Nat.reduceMul, Nat.reduceLeDiff, Nat.le_refl, reduceIte, reduceCtorEq])
        · have hz2 : ∀ e ∈ rw0, e.length = 3 := fun e he => by
            rw [← hrw] at he
            exact fm3 _ e he
          repeat' first | refine c_seq ?_ | refine c_reg' rfl fun K E hK hE => ?_ | (refine r_opN fun κ η => ?_; simp only [go_sem, Nat.reduceLT, Nat.reduceEqDiff, Nat.reduceAdd, Nat.reduceMul, Nat.reduceLeDiff, Nat.le_refl, reduceIte, reduceCtorEq, hr2]; (repeat refine ⟨by omega, ?_⟩); refine η _ ?_; clear η κ) | (refine r_nil (hK _ ?_); clear hE hK E K) | refine q_seq ?_ | refine c_exit ?_ | refine c_ret ?_ | refine q_seqE ?_ | refine q_blkHit ?_ | refine q_lpE ?_ | (refine q_ret ?_; refine q_r1 ?_; simp only [go_sem, Nat.reduceLT, Nat.reduceEqDiff, Nat.reduceAdd, Nat.reduceMul, Nat.reduceLeDiff, Nat.le_refl, reduceIte, reduceCtorEq, hr2])
      · rcases hxx with ⟨rfl, rfl⟩ | ⟨q, rfl, hr2⟩
        · repeat' first | refine c_seq ?_ | refine c_reg' rfl fun K E hK hE => ?_ | (refine r_opN fun κ η => ?_; simp only [go_sem, Nat.reduceLT, Nat.reduceEqDiff, Nat.reduceAdd, Nat.reduceMul, Nat.reduceLeDiff, Nat.le_refl, reduceIte, reduceCtorEq, fL, hzr]; (repeat refine ⟨by omega, ?_⟩); refine η _ ?_; clear η κ) | (refine r_nil (hK _ ?_); clear hE hK E K) | refine q_seq ?_ | refine c_exit ?_ | refine c_ret ?_ | refine q_seqE ?_ | refine q_blkHit ?_ | refine q_lpE ?_ | (refine q_ret ?_; refine q_r1 ?_; simp only [go_sem, Nat.reduceLT, Nat.reduceEqDiff, Nat.reduceAdd, Nat.reduceMul, Nat.reduceLeDiff, Nat.le_refl, reduceIte, reduceCtorEq, fL, hzr])
          rw [hfin, List.nil_append]
        · repeat' first | refine c_seq ?_ | refine c_reg' rfl fun K E hK hE => ?_ | (refine r_opN fun κ η => ?_; simp only [go_sem, Nat.reduceLT, Nat.reduceEqDiff, Nat.reduceAdd, Nat.reduceMul, Nat.reduceLeDiff, Nat.le_refl, reduceIte, reduceCtorEq, hr2, fL, hzr]; (repeat refine ⟨by omega, ?_⟩); refine η _ ?_; clear η κ) | (refine r_nil (hK _ ?_); clear hE hK E K) | refine q_seq ?_ | refine c_exit ?_ | refine c_ret ?_ | refine q_seqE ?_ | refine q_blkHit ?_ | refine q_lpE ?_ | (refine q_ret ?_; refine q_r1 ?_; simp only [go_sem, Nat.reduceLT, Nat.reduceEqDiff, Nat.reduceAdd, Nat.reduceMul, Nat.reduceLeDiff, Nat.le_refl, reduceIte, reduceCtorEq, hr2, fL, hzr])
          rw [hfin]
end Go.Proofs.YtfflfmpkjcomgaaDoor
