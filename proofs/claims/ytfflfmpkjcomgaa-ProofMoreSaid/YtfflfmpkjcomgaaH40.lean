import Derived.Test.YtfflfmpkjcomgaaH31
import Derived.Test.YtfflfmpkjcomgaaH20
import Derived.Test.YtfflfmpkjcomgaaH27
import Derived.Test.YtfflfmpkjcomgaaH37
namespace Go.Proofs.Ytfflfmpkjcomgaa
open Go.RowKit
set_option maxRecDepth 100000
set_option linter.unusedSimpArgs false
variable (Hy : World → Prop)
attribute [local irreducible] runM runD cwp seqQ blkQ lpQ retQ asQ bdQ bdY retP
theorem leads_app {l m : List (List Int)} : ∀ {cs : List (List Int)}, Leads cs (l ++ m) ↔ Leads cs l ∧ Leads (cs ++ l) m := by
  induction l with
  | nil =>
    intro cs
    rw [List.append_nil, List.nil_append]
    exact ⟨fun h => ⟨trivial, h⟩, fun h => h.2⟩
  | cons c l ih =>
    intro cs
    have h1 : Leads cs (c :: l ++ m) ↔ Confl cs (GL (turn c)) ∧ Leads (cs ++ [c]) (l ++ m) := Iff.rfl
    have h2 : Leads cs (c :: l) ↔ Confl cs (GL (turn c)) ∧ Leads (cs ++ [c]) l := Iff.rfl
    rw [h1, h2, ih, show cs ++ c :: l = cs ++ [c] ++ l by simp, and_assoc]
theorem leadsC_app {cs l m : List (List Int)} (h : Leads cs l) : LeadsC cs (l ++ m) ↔ LeadsC (cs ++ l) m := by
  unfold LeadsC
  rw [leads_app, List.append_assoc]
  exact ⟨fun ⟨⟨_, a⟩, b⟩ => ⟨a, b⟩, fun ⟨a, b⟩ => ⟨⟨h, a⟩, b⟩⟩
set_option maxHeartbeats 1000000 in
theorem rPrune_ct (cs : List (List Int)) (v : Int) (l : List (List Int)) (hcs : ∀ c ∈ cs, c.length ≤ 1000000) (hl : ∀ c ∈ l, c.length ≤ 1000000) (hll : l.length ≤ 100000) :
    Ct Try.prog Hy 18 [cL cs, .i .i64 v, cL l] (if chkA cs v l = 0 then [cL (prunF cs l), .i .i64 0] else [cL [], .i .i64 (chkA cs v l)]) := by
  have h := can_ct Hy cs v l hcs hl (by omega)
  simp only [cL] at h
  refine ct_of (cls := _root_.id) tt_ok follows_ Try.func18 rfl (by decide) (Nat.le_of_ble_eq_true rfl) ?_
  rw [show Try.f18.ntmps = 51 from rfl, s0_nf]
  simp only [List.zipIdx_cons, List.zipIdx_nil, List.map_cons, List.map_nil, Nat.reduceAdd, cL]
  by_cases h0 : chkA cs v l = 0
  case neg =>
    rw [if_neg h0]
    repeat' first | refine c_seq ?_ | refine c_reg' rfl fun K E hK hE => ?_ | (refine r_opN fun κ η => ?_; simp only [go_sem, Nat.reduceLT, Nat.reduceEqDiff, Nat.reduceAdd, Nat.reduceMul, Nat.reduceLeDiff, Nat.le_refl, reduceIte, reduceCtorEq]; refine η _ ?_; clear η κ) | (refine r_nil (hK _ ?_); clear hE hK E K) | refine q_seq ?_
    refine r_opN fun κ η => ?_; simp only [go_sem, Nat.reduceLT, Nat.reduceEqDiff, Nat.reduceAdd, Nat.reduceMul, Nat.reduceLeDiff, Nat.le_refl, reduceIte, reduceCtorEq]; refine ⟨_, h, ?_⟩; simp only [go_sem, Nat.reduceLT, Nat.reduceEqDiff, Nat.reduceAdd, Nat.reduceMul, Nat.reduceLeDiff, Nat.le_refl, reduceIte, reduceCtorEq]; refine η _ ?_; clear η κ
    repeat' first | refine c_seq ?_ | refine c_reg' rfl fun K E hK hE => ?_ | (refine r_opN fun κ η => ?_; simp only [go_sem, Nat.reduceLT, Nat.reduceEqDiff, Nat.reduceAdd, Nat.reduceMul, Nat.reduceLeDiff, Nat.le_refl, reduceIte, reduceCtorEq, h0]; refine η _ ?_; clear η κ) | (refine r_nil (hK _ ?_); clear hE hK E K) | refine q_seq ?_
    refine c_cond _ rfl (fun hq => ?_) (fun hq => (by simp [h0] at hq))
    repeat' first | refine c_seq ?_ | refine c_reg' rfl fun K E hK hE => ?_ | (refine r_opN fun κ η => ?_; simp only [go_sem, Nat.reduceLT, Nat.reduceEqDiff, Nat.reduceAdd, Nat.reduceMul, Nat.reduceLeDiff, Nat.le_refl, reduceIte, reduceCtorEq]; refine η _ ?_; clear η κ) | (refine r_nil (hK _ ?_); clear hE hK E K) | refine q_seq ?_ | refine c_ret ?_ | refine q_seqR ?_ | (refine q_ret ?_; refine q_r1 ?_; simp only [go_sem, Nat.reduceLT, Nat.reduceEqDiff, Nat.reduceAdd, Nat.reduceMul, Nat.reduceLeDiff, Nat.le_refl, reduceIte, reduceCtorEq])
  rw [if_pos h0]
  rw [h0] at h
  obtain ⟨hv, hn, hc1, hc2⟩ := chk_ok h0
  have hld := fun (m : List (List Int)) (hm : ∀ d ∈ m, d ∈ l) (hmn : m.length ≤ 100000) q hq => rleads_ct Hy cs v m hv (fun c hc => by
    rcases List.mem_append.1 hc with hc | hc
    · exact ⟨hcs c hc, hc1 c hc⟩
    · exact ⟨hl c (hm c hc), hc2 c (hm c hc)⟩) (by rw [List.length_append]; omega) q hq
  simp only [cL] at hld
  by_cases hL : LeadsC cs l
  case neg =>
    have hpr : prunF cs l = [] := by unfold prunF; exact if_neg hL
    rw [hpr]
    repeat' first | refine c_seq ?_ | refine c_reg' rfl fun K E hK hE => ?_ | (refine r_opN fun κ η => ?_; simp only [go_sem, Nat.reduceLT, Nat.reduceEqDiff, Nat.reduceAdd, Nat.reduceMul, Nat.reduceLeDiff, Nat.le_refl, reduceIte, reduceCtorEq]; refine η _ ?_; clear η κ) | (refine r_nil (hK _ ?_); clear hE hK E K) | refine q_seq ?_
    refine r_opN fun κ η => ?_; simp only [go_sem, Nat.reduceLT, Nat.reduceEqDiff, Nat.reduceAdd, Nat.reduceMul, Nat.reduceLeDiff, Nat.le_refl, reduceIte, reduceCtorEq]; refine ⟨_, h, ?_⟩; simp only [go_sem, Nat.reduceLT, Nat.reduceEqDiff, Nat.reduceAdd, Nat.reduceMul, Nat.reduceLeDiff, Nat.le_refl, reduceIte, reduceCtorEq]; refine η _ ?_; clear η κ
    repeat' first | refine c_seq ?_ | refine c_reg' rfl fun K E hK hE => ?_ | (refine r_opN fun κ η => ?_; simp only [go_sem, Nat.reduceLT, Nat.reduceEqDiff, Nat.reduceAdd, Nat.reduceMul, Nat.reduceLeDiff, Nat.le_refl, reduceIte, reduceCtorEq]; refine η _ ?_; clear η κ) | (refine r_nil (hK _ ?_); clear hE hK E K) | refine q_seq ?_
    refine c_cond _ rfl (fun hq => (by cases hq)) (fun hq => ?_)
    repeat' first | refine c_seq ?_ | refine c_reg' rfl fun K E hK hE => ?_ | (refine r_opN fun κ η => ?_; simp only [go_sem, Nat.reduceLT, Nat.reduceEqDiff, Nat.reduceAdd, Nat.reduceMul, Nat.reduceLeDiff, Nat.le_refl, reduceIte, reduceCtorEq]; refine η _ ?_; clear η κ) | refine q_seq ?_ | refine c_skip ?_
    refine r_opN fun κ η => ?_; simp only [go_sem, Nat.reduceLT, Nat.reduceEqDiff, Nat.reduceAdd, Nat.reduceMul, Nat.reduceLeDiff, Nat.le_refl, reduceIte, reduceCtorEq]; refine ⟨_, hld l (fun _ h => h) hll false (by simp [hL]), ?_⟩; simp only [go_sem, Nat.reduceLT, Nat.reduceEqDiff, Nat.reduceAdd, Nat.reduceMul, Nat.reduceLeDiff, Nat.le_refl, reduceIte, reduceCtorEq]; refine η _ ?_; clear η κ
    repeat' first | (refine r_opN fun κ η => ?_; simp only [go_sem, Nat.reduceLT, Nat.reduceEqDiff, Nat.reduceAdd, Nat.reduceMul, Nat.reduceLeDiff, Nat.le_refl, reduceIte, reduceCtorEq]; refine η _ ?_; clear η κ) | (refine r_nil (hK _ ?_); clear hE hK E K) | refine q_seq ?_
    refine c_cond _ rfl (fun hq => ?_) (fun hq => (by cases hq))
    repeat' first | refine c_seq ?_ | refine c_reg' rfl fun K E hK hE => ?_ | (refine r_opN fun κ η => ?_; simp only [go_sem, Nat.reduceLT, Nat.reduceEqDiff, Nat.reduceAdd, Nat.reduceMul, Nat.reduceLeDiff, Nat.le_refl, reduceIte, reduceCtorEq]; refine η _ ?_; clear η κ) | (refine r_nil (hK _ ?_); clear hE hK E K) | refine q_seq ?_ | refine c_ret ?_ | refine q_seqR ?_ | (refine q_ret ?_; refine q_r1 ?_; simp only [go_sem, Nat.reduceLT, Nat.reduceEqDiff, Nat.reduceAdd, Nat.reduceMul, Nat.reduceLeDiff, Nat.le_refl, reduceIte, reduceCtorEq])
  have hpr : prunF cs l = prn cs l l.length [] := by unfold prunF; exact if_pos hL
  rw [hpr]
  have hz := eq_true (ints1 l)
  repeat' first | refine c_seq ?_ | refine c_reg' rfl fun K E hK hE => ?_ | (refine r_opN fun κ η => ?_; simp only [go_sem, Nat.reduceLT, Nat.reduceEqDiff, Nat.reduceAdd, Nat.reduceMul, Nat.reduceLeDiff, Nat.le_refl, reduceIte, reduceCtorEq]; refine η _ ?_; clear η κ) | (refine r_nil (hK _ ?_); clear hE hK E K) | refine q_seq ?_
  refine r_opN fun κ η => ?_; simp only [go_sem, Nat.reduceLT, Nat.reduceEqDiff, Nat.reduceAdd, Nat.reduceMul, Nat.reduceLeDiff, Nat.le_refl, reduceIte, reduceCtorEq]; refine ⟨_, h, ?_⟩; simp only [go_sem, Nat.reduceLT, Nat.reduceEqDiff, Nat.reduceAdd, Nat.reduceMul, Nat.reduceLeDiff, Nat.le_refl, reduceIte, reduceCtorEq]; refine η _ ?_; clear η κ
  repeat' first | refine c_seq ?_ | refine c_reg' rfl fun K E hK hE => ?_ | (refine r_opN fun κ η => ?_; simp only [go_sem, Nat.reduceLT, Nat.reduceEqDiff, Nat.reduceAdd, Nat.reduceMul, Nat.reduceLeDiff, Nat.le_refl, reduceIte, reduceCtorEq]; refine η _ ?_; clear η κ) | (refine r_nil (hK _ ?_); clear hE hK E K) | refine q_seq ?_
  refine c_cond _ rfl (fun hq => (by cases hq)) (fun hq => ?_)
  repeat' first | refine c_seq ?_ | refine c_reg' rfl fun K E hK hE => ?_ | (refine r_opN fun κ η => ?_; simp only [go_sem, Nat.reduceLT, Nat.reduceEqDiff, Nat.reduceAdd, Nat.reduceMul, Nat.reduceLeDiff, Nat.le_refl, reduceIte, reduceCtorEq]; refine η _ ?_; clear η κ) | refine q_seq ?_ | refine c_skip ?_
  refine r_opN fun κ η => ?_; simp only [go_sem, Nat.reduceLT, Nat.reduceEqDiff, Nat.reduceAdd, Nat.reduceMul, Nat.reduceLeDiff, Nat.le_refl, reduceIte, reduceCtorEq]; refine ⟨_, hld l (fun _ h => h) hll true (by simp [hL]), ?_⟩; simp only [go_sem, Nat.reduceLT, Nat.reduceEqDiff, Nat.reduceAdd, Nat.reduceMul, Nat.reduceLeDiff, Nat.le_refl, reduceIte, reduceCtorEq]; refine η _ ?_; clear η κ
  repeat' first | (refine r_opN fun κ η => ?_; simp only [go_sem, Nat.reduceLT, Nat.reduceEqDiff, Nat.reduceAdd, Nat.reduceMul, Nat.reduceLeDiff, Nat.le_refl, reduceIte, reduceCtorEq]; refine η _ ?_; clear η κ) | (refine r_nil (hK _ ?_); clear hE hK E K) | refine q_seq ?_
  refine c_cond _ rfl (fun hq => (by cases hq)) (fun hq => ?_)
  repeat' refine c_skip ?_
  refine q_seq ?_
  repeat' first | refine c_seq ?_ | refine c_reg' rfl fun K E hK hE => ?_ | (refine r_opN fun κ η => ?_; simp only [go_sem, Nat.reduceLT, Nat.reduceEqDiff, Nat.reduceAdd, Nat.reduceMul, Nat.reduceLeDiff, Nat.le_refl, reduceIte, reduceCtorEq]; refine η _ ?_; clear η κ) | (refine r_nil (hK _ ?_); clear hE hK E K)
  refine q_seq ?_
  repeat' first | refine c_seq ?_ | refine c_reg' rfl fun K E hK hE => ?_ | (refine r_opN fun κ η => ?_; simp only [go_sem, Nat.reduceLT, Nat.reduceEqDiff, Nat.reduceAdd, Nat.reduceMul, Nat.reduceLeDiff, Nat.le_refl, reduceIte, reduceCtorEq, hz]; (repeat refine ⟨by omega, ?_⟩); refine η _ ?_; clear η κ) | (refine r_nil (hK _ ?_); clear hE hK E K)
  refine q_seq ?_
  repeat' first | refine c_seq ?_ | refine c_reg' rfl fun K E hK hE => ?_ | (refine r_opN fun κ η => ?_; simp only [go_sem, Nat.reduceLT, Nat.reduceEqDiff, Nat.reduceAdd, Nat.reduceMul, Nat.reduceLeDiff, Nat.le_refl, reduceIte, reduceCtorEq, hz]; (repeat refine ⟨by omega, ?_⟩); refine η _ ?_; clear η κ) | (refine r_nil (hK _ ?_); clear hE hK E K)
  refine q_frz 9 (by decide) (t0 := ?zt1) (up0 := ?zu1) ?zf1 ?zh1; (case zf1 => simp only [go_sem, Nat.reduceLT, Nat.reduceEqDiff, Nat.reduceAdd, Nat.reduceMul, Nat.reduceLeDiff, Nat.le_refl, reduceIte, reduceCtorEq]; (repeat' apply And.intro) <;> first | rfl | assumption | decide); simp only [List.reverse_cons, List.reverse_nil, List.nil_append, List.cons_append]
  repeat' refine c_block ?_
  refine c_loop (fun m s' => ∃ k kp F oc, m = k ∧ k ≤ l.length ∧ s' = nf 51 F oc [(0, .t (cL cs)), (1, .t (.i .i64 v)), (9, .t (cL (l.take k ++ kp))), (10, .t (.i .i64 ((k : Nat) - 1)))] [] ∧ prn cs l l.length [] = prn cs l k kp ∧ (∀ d ∈ kp, d ∈ l) ∧ kp.length + k ≤ l.length) l.length ?_ ?_
  · exact ⟨l.length, [], _, _, rfl, Nat.le_refl _, nf_of rfl ⟨rfl, rfl, by rw [List.take_length, List.append_nil]; rfl, rfl, trivial⟩ trivial, rfl, fun _ h => absurd h List.not_mem_nil, by simp⟩
  rintro k s' ⟨_, kp, F, oc, rfl, hk, rfl, hprn, hkl, hlen⟩
  simp only [cL]
  repeat' first | refine c_seq ?_ | refine c_reg' rfl fun K E hK hE => ?_ | (refine r_opN fun κ η => ?_; simp only [go_sem, Nat.reduceLT, Nat.reduceEqDiff, Nat.reduceAdd, Nat.reduceMul, Nat.reduceLeDiff, Nat.le_refl, reduceIte, reduceCtorEq]; refine η _ ?_; clear η κ) | (refine r_nil (hK _ ?_); clear hE hK E K) | refine q_seq ?_
  refine c_cond _ rfl (fun hq2 => ?_) (fun hq2 => ?_)
  · simp only [decide_eq_true_eq] at hq2
    obtain ⟨i, rfl⟩ : ∃ i, k = i + 1 := ⟨k - 1, by omega⟩
    have hj : ((i + 1 : Nat) : Int) - 1 = (i : Int) := by omega
    rw [hj]
    obtain ⟨c, hc⟩ : ∃ c, l[i]? = some c := ⟨_, List.getElem?_eq_getElem (by omega)⟩
    have htk : l.take (i + 1) = l.take i ++ [c] := by rw [List.take_add_one, hc]; rfl
    have hti : (l.take i).length = i := by rw [List.length_take]; omega
    have hz1 := eq_true (ints1 (l.take (i + 1) ++ kp))
    have hz2 := eq_true (ints1 (l.take i))
    have hz3 := eq_true (ints1 kp)
    have hzl : ((l.take (i + 1) ++ kp).map fun c => [iL c]).length = i + 1 + kp.length := by rw [htk]; simp; omega
    have hs1 : ((l.take (i + 1) ++ kp).map fun c => [iL c]).take i = (l.take i).map fun c => [iL c] := by rw [htk, List.append_assoc, List.map_append, List.take_left' (by simp; omega)]
    have hs2 : ((l.take (i + 1) ++ kp).map fun c => [iL c]).drop (i + 1) = kp.map fun c => [iL c] := by rw [List.map_append, List.drop_left' (by rw [htk]; simp; omega)]
    have hs3 : (kp.map fun c => [iL c]).take kp.length = kp.map fun c => [iL c] := List.take_of_length_le (by simp)
    have hn1 : ((i : Int) + 1).toNat = i + 1 := by omega
    have hn2 : (((i + 1 + kp.length : Nat) : Int) - ((i : Int) + 1)).toNat = kp.length := by omega
    have hm : ∀ d ∈ l.take i ++ kp, d ∈ l := fun d hd => by
      rcases List.mem_append.1 hd with hd | hd
      · exact List.take_subset _ _ hd
      · exact hkl d hd
    have hL0 : Leads cs (l.take i) := leads_pre hL.1
    have hap := leadsC_app (m := kp) hL0
    have hld2 := hld (l.take i ++ kp) hm (by rw [List.length_append]; omega)
    rw [List.map_append] at hld2
    have hmem : c ∈ l := List.mem_of_getElem? hc
    repeat' refine c_skip ?_
    refine q_seq ?_
    repeat' first | refine c_seq ?_ | refine c_block ?_ | refine c_reg' rfl fun K E hK hE => ?_ | (refine r_opN fun κ η => ?_; simp only [go_sem, Nat.reduceLT, Nat.reduceEqDiff, Nat.reduceAdd, Nat.reduceMul, Nat.reduceLeDiff, Nat.le_refl, reduceIte, reduceCtorEq]; refine η _ ?_; clear η κ) | (refine r_nil (hK _ ?_); clear hE hK E K)
    refine q_seq ?_
    repeat' first | refine c_seq ?_ | refine c_reg' rfl fun K E hK hE => ?_ | (refine r_opN fun κ η => ?_; simp only [go_sem, Nat.reduceLT, Nat.reduceEqDiff, Nat.reduceAdd, Nat.reduceMul, Nat.reduceLeDiff, Nat.le_refl, reduceIte, reduceCtorEq, hs1, hzl, hz1, hz2]; (repeat refine ⟨by omega, ?_⟩); refine η _ ?_; clear η κ) | (refine r_nil (hK _ ?_); clear hE hK E K)
    refine q_seq ?_
    repeat' first | refine c_seq ?_ | refine c_reg' rfl fun K E hK hE => ?_ | (refine r_opN fun κ η => ?_; simp only [go_sem, Nat.reduceLT, Nat.reduceEqDiff, Nat.reduceAdd, Nat.reduceMul, Nat.reduceLeDiff, Nat.le_refl, reduceIte, reduceCtorEq, hs1, hs2, hs3, hn1, hn2, hzl, hz1, hz2, hz3]; (repeat refine ⟨by omega, ?_⟩); refine η _ ?_; clear η κ) | (refine r_nil (hK _ ?_); clear hE hK E K)
    refine q_frz 11 (by decide) (t0 := ?zt2) (up0 := ?zu2) ?zf2 ?zh2; (case zf2 => simp only [go_sem, Nat.reduceLT, Nat.reduceEqDiff, Nat.reduceAdd, Nat.reduceMul, Nat.reduceLeDiff, Nat.le_refl, reduceIte, reduceCtorEq]; (repeat' apply And.intro) <;> first | rfl | assumption | decide); simp only [List.reverse_cons, List.reverse_nil, List.nil_append, List.cons_append]
    by_cases hL2 : LeadsC (cs ++ l.take i) kp
    · have hl3 := hld2 true (by simp [hap, hL2])
      have hps : prn cs l (i + 1) kp = prn cs l i kp := by rw [prn, if_pos hL2]
      repeat' first | refine c_seq ?_ | refine c_reg' rfl fun K E hK hE => ?_ | (refine r_opN fun κ η => ?_; simp only [go_sem, Nat.reduceLT, Nat.reduceEqDiff, Nat.reduceAdd, Nat.reduceMul, Nat.reduceLeDiff, Nat.le_refl, reduceIte, reduceCtorEq]; refine η _ ?_; clear η κ)
      refine r_opN fun κ η => ?_; simp only [go_sem, Nat.reduceLT, Nat.reduceEqDiff, Nat.reduceAdd, Nat.reduceMul, Nat.reduceLeDiff, Nat.le_refl, reduceIte, reduceCtorEq]; refine ⟨_, hl3, ?_⟩; simp only [go_sem, Nat.reduceLT, Nat.reduceEqDiff, Nat.reduceAdd, Nat.reduceMul, Nat.reduceLeDiff, Nat.le_refl, reduceIte, reduceCtorEq]; refine η _ ?_; clear η κ
      repeat' first | (refine r_nil (hK _ ?_); clear hE hK E K) | refine q_seq ?_
      refine c_cond _ rfl (fun hq => ?_) (fun hq => (by cases hq))
      repeat' first | refine c_reg' rfl fun K E hK hE => ?_ | (refine r_opN fun κ η => ?_; simp only [go_sem, Nat.reduceLT, Nat.reduceEqDiff, Nat.reduceAdd, Nat.reduceMul, Nat.reduceLeDiff, Nat.le_refl, reduceIte, reduceCtorEq]; (repeat refine ⟨by omega, ?_⟩); refine η _ ?_; clear η κ) | (refine r_nil (hK _ ?_); clear hE hK E K) | refine q_seq ?_ | refine q_blk ?_ | refine q_lpN ?_
      exact ⟨i, by omega, i, kp, _, _, rfl, by omega, nf_of rfl ⟨rfl, rfl, congrArg (fun z => A.t (T.sl z)) (List.map_append (f := fun c => [iL c]) (l₁ := l.take i) (l₂ := kp)).symm, rfl, trivial⟩ trivial, hprn.trans hps, hkl, by omega⟩
    · have hl3 := hld2 false (by simp [hap, hL2])
      have hps : prn cs l (i + 1) kp = prn cs l i (c :: kp) := by rw [prn, if_neg hL2, List.getD_eq_getElem?_getD, hc]; rfl
      repeat' first | refine c_seq ?_ | refine c_reg' rfl fun K E hK hE => ?_ | (refine r_opN fun κ η => ?_; simp only [go_sem, Nat.reduceLT, Nat.reduceEqDiff, Nat.reduceAdd, Nat.reduceMul, Nat.reduceLeDiff, Nat.le_refl, reduceIte, reduceCtorEq]; refine η _ ?_; clear η κ)
      refine r_opN fun κ η => ?_; simp only [go_sem, Nat.reduceLT, Nat.reduceEqDiff, Nat.reduceAdd, Nat.reduceMul, Nat.reduceLeDiff, Nat.le_refl, reduceIte, reduceCtorEq]; refine ⟨_, hl3, ?_⟩; simp only [go_sem, Nat.reduceLT, Nat.reduceEqDiff, Nat.reduceAdd, Nat.reduceMul, Nat.reduceLeDiff, Nat.le_refl, reduceIte, reduceCtorEq]; refine η _ ?_; clear η κ
      repeat' first | (refine r_nil (hK _ ?_); clear hE hK E K) | refine q_seq ?_
      refine c_cond _ rfl (fun hq => (by cases hq)) (fun hq => ?_)
      repeat' first | refine c_reg' rfl fun K E hK hE => ?_ | (refine r_opN fun κ η => ?_; simp only [go_sem, Nat.reduceLT, Nat.reduceEqDiff, Nat.reduceAdd, Nat.reduceMul, Nat.reduceLeDiff, Nat.le_refl, reduceIte, reduceCtorEq]; (repeat refine ⟨by omega, ?_⟩); refine η _ ?_; clear η κ) | (refine r_nil (hK _ ?_); clear hE hK E K) | refine q_seq ?_ | refine q_blk ?_ | refine c_skip ?_ | refine q_lpN ?_
      exact ⟨i, by omega, i, c :: kp, _, _, rfl, by omega, nf_of rfl ⟨rfl, rfl, by rw [htk, List.append_assoc]; rfl, rfl, trivial⟩ trivial, hprn.trans hps, fun d hd => by
        rcases List.mem_cons.1 hd with rfl | hd
        · exact hmem
        · exact hkl d hd, by rw [List.length_cons]; omega⟩
  · simp only [decide_eq_false_iff_not] at hq2
    obtain rfl : k = 0 := by omega
    repeat' first | refine c_seq ?_ | refine c_reg' rfl fun K E hK hE => ?_ | (refine r_opN fun κ η => ?_; simp only [go_sem, Nat.reduceLT, Nat.reduceEqDiff, Nat.reduceAdd, Nat.reduceMul, Nat.reduceLeDiff, Nat.le_refl, reduceIte, reduceCtorEq]; refine η _ ?_; clear η κ) | (refine r_nil (hK _ ?_); clear hE hK E K) | refine q_seq ?_ | refine c_exit ?_ | refine c_ret ?_ | refine q_seqE ?_ | refine q_blkHit ?_ | refine q_lpE ?_ | (refine q_ret ?_; refine q_r1 ?_; simp only [go_sem, Nat.reduceLT, Nat.reduceEqDiff, Nat.reduceAdd, Nat.reduceMul, Nat.reduceLeDiff, Nat.le_refl, reduceIte, reduceCtorEq])
    rw [hprn]
    rfl
end Go.Proofs.Ytfflfmpkjcomgaa
namespace Go.Proofs.Ytfflfmpkjcomgaa
open Go.RowKit
set_option maxRecDepth 100000
theorem prn_leads {cs l : List (List Int)} (hL : Leads cs l) : ∀ (k : Nat) (kp : List (List Int)), k ≤ l.length → LeadsC (cs ++ l.take k) kp → LeadsC cs (prn cs l k kp)
  | 0, kp, _, h => by
    rw [List.take_zero, List.append_nil] at h
    exact h
  | k + 1, kp, hk, h => by
    unfold prn
    obtain ⟨c, hc⟩ : ∃ c, l[k]? = some c := ⟨_, List.getElem?_eq_getElem (by omega)⟩
    have htk : l.take (k + 1) = l.take k ++ [c] := by rw [List.take_add_one, hc]; rfl
    split
    · rename_i h2
      exact prn_leads hL k kp (by omega) h2
    · refine prn_leads hL k _ (by omega) ?_
      rw [List.getD_eq_getElem?_getD, hc]
      show LeadsC (cs ++ l.take k) (c :: kp)
      have hcc := ((leads_take hc).1 (leads_pre (k := k + 1) hL)).2
      rw [htk, ← List.append_assoc] at h
      refine ⟨⟨hcc, h.1⟩, ?_⟩
      have := h.2
      rw [List.append_assoc] at this
      exact this
theorem prn_split {cs l : List (List Int)} : ∀ (k : Nat) (kp : List (List Int)), k ≤ l.length → ∃ kb, prn cs l k kp = kb ++ kp ∧ (∀ d ∈ kb, d ∈ l.take k) ∧ ∀ n, n < kb.length → ¬ LeadsC cs (kb.take n ++ kb.drop (n + 1) ++ kp)
  | 0, kp, _ => ⟨[], rfl, fun _ h => absurd h List.not_mem_nil, fun n hn => absurd hn (Nat.not_lt_zero n)⟩
  | k + 1, kp, hk => by
    unfold prn
    obtain ⟨c, hc⟩ : ∃ c, l[k]? = some c := ⟨_, List.getElem?_eq_getElem (by omega)⟩
    have htk : l.take (k + 1) = l.take k ++ [c] := by rw [List.take_add_one, hc]; rfl
    split
    · obtain ⟨kb, h1, h2, h3⟩ := prn_split (cs := cs) (l := l) k kp (by omega)
      exact ⟨kb, h1, fun d hd => by rw [htk]; exact List.mem_append_left _ (h2 d hd), h3⟩
    · rename_i hn
      rw [List.getD_eq_getElem?_getD, hc]
      obtain ⟨kb, h1, h2, h3⟩ := prn_split (cs := cs) (l := l) k (c :: kp) (by omega)
      refine ⟨kb ++ [c], by rw [List.append_assoc]; exact h1, fun d hd => ?_, fun n hnl hL => ?_⟩
      · rw [htk]
        rcases List.mem_append.1 hd with hd | hd
        · exact List.mem_append_left _ (h2 d hd)
        · exact List.mem_append_right _ hd
      · rw [List.length_append, List.length_singleton] at hnl
        by_cases e : n < kb.length
        · refine h3 n e ?_
          rw [List.take_append_of_le_length (by omega), List.drop_append_of_le_length (by omega)] at hL
          simpa using hL
        · obtain rfl : n = kb.length := by omega
          rw [List.take_left, List.drop_of_length_le (by simp), List.append_nil] at hL
          have h4 := (leads_app.1 hL.1).1
          have h5 := (leadsC_app h4).1 hL
          refine hn (leadsC_mono (fun d hd => ?_) h5)
          rcases List.mem_append.1 hd with hd | hd
          · exact List.mem_append_left _ hd
          · exact List.mem_append_right _ (h2 d hd)
/-- what is pruned leads, and each of it is needed -/
theorem prun_ok {cs l : List (List Int)} : (∀ d ∈ prunF cs l, d ∈ l) ∧ (prunF cs l).length ≤ l.length ∧ (LeadsC cs l → LeadsC cs (prunF cs l) ∧ ∀ n, n < (prunF cs l).length → ¬ LeadsC cs ((prunF cs l).take n ++ (prunF cs l).drop (n + 1))) ∧ (¬ LeadsC cs l → prunF cs l = []) := by
  by_cases hL : LeadsC cs l
  · have e : prunF cs l = prn cs l l.length [] := by unfold prunF; exact if_pos hL
    obtain ⟨kb, h1, h2, h3⟩ := prn_split (cs := cs) (l := l) l.length [] (Nat.le_refl _)
    rw [List.append_nil] at h1
    rw [List.take_length] at h2
    have hlen : ∀ (k : Nat) (kp : List (List Int)), (prn cs l k kp).length ≤ k + kp.length := fun k => by
      induction k with
      | zero => intro kp; exact Nat.le_of_eq (Nat.zero_add _).symm
      | succ k ih =>
        intro kp
        unfold prn
        split
        · have := ih kp; omega
        · have := ih (l.getD k [] :: kp); rw [List.length_cons] at this; omega
    have h4 := hlen l.length []
    refine ⟨?_, by rw [e]; simpa using h4, fun _ => ⟨?_, ?_⟩, fun h => absurd hL h⟩
    · rw [e, h1]; exact h2
    · rw [e]
      refine prn_leads hL.1 _ _ (Nat.le_refl _) ?_
      rw [List.take_length, ← leadsC_app hL.1, List.append_nil]
      exact hL
    · rw [e, h1]
      intro n hn
      have := h3 n hn
      rwa [List.append_nil] at this
  · have e : prunF cs l = [] := by unfold prunF; exact if_neg hL
    rw [e]
    exact ⟨fun _ h => absurd h List.not_mem_nil, Nat.zero_le _, fun h => absurd h hL, fun _ => rfl⟩
theorem chkA_sub {cs l m : List (List Int)} {v : Int} (h : chkA cs v l = 0) (hs : ∀ d ∈ m, d ∈ l) : chkA cs v m = 0 := by
  unfold chkA at h ⊢
  split at h
  · rename_i h0
    rw [if_pos h0]
    split at h
    · cases h
    · rename_i hn
      rw [if_neg]
      intro hm
      obtain ⟨d, hd, hx⟩ := List.any_eq_true.1 hm
      exact hn (List.any_eq_true.2 ⟨d, hs d hd, hx⟩)
  · rename_i h0
    exact absurd h h0
/-- does it lead, by reckoning? -/
def leadsB (v : Int) : List (List Int) → List (List Int) → Bool
  | cs, [] => (reachF cs v []).2
  | cs, c :: l => (reachF cs v (turn c)).2 && leadsB v (cs ++ [c]) l
theorem turn_lit {c : List Int} {v : Int} (h : ∀ x ∈ c, LitV v x) : ∀ x ∈ turn c, LitV v x := fun x hx => by
  obtain ⟨y, hy, rfl⟩ := List.mem_map.1 hx
  exact (h y hy).neg
theorem leadsB_iff {v : Int} (hv : 0 ≤ v) : ∀ (l cs : List (List Int)), (∀ c ∈ cs, ∀ x ∈ c, LitV v x) → (∀ c ∈ l, ∀ x ∈ c, LitV v x) → (leadsB v cs l = true ↔ LeadsC cs l)
  | [], cs, hb, _ => by
    unfold leadsB LeadsC
    rw [(reach_iff hv hb (fun _ h => absurd h List.not_mem_nil)).1, List.append_nil]
    exact ⟨fun h => ⟨trivial, h.mono (fun c hc => ⟨c, hc, fun _ => Iff.rfl⟩) fun _ e => absurd e List.not_mem_nil⟩, fun h => h.2.mono (fun c hc => ⟨c, hc, fun _ => Iff.rfl⟩) fun _ e => e.elim⟩
  | c :: l, cs, hb, hl => by
    have ih := leadsB_iff hv l (cs ++ [c]) (fun d hd => by
      rcases List.mem_append.1 hd with hd | hd
      · exact hb d hd
      · rw [List.mem_singleton.1 hd]; exact hl c List.mem_cons_self) (fun d hd => hl d (List.mem_cons_of_mem _ hd))
    unfold leadsB
    rw [Bool.and_eq_true, ih, (reach_iff hv hb (turn_lit (hl c List.mem_cons_self))).1]
    unfold LeadsC
    rw [List.append_assoc]
    exact ⟨fun ⟨a, b, c⟩ => ⟨⟨a, b⟩, c⟩, fun ⟨⟨a, b⟩, c⟩ => ⟨a, b, c⟩⟩
end Go.Proofs.Ytfflfmpkjcomgaa
namespace Go.Proofs.Ytfflfmpkjcomgaa
open Go.RowKit
set_option maxRecDepth 100000
set_option linter.unusedSimpArgs false
variable (Hy : World → Prop)
attribute [local irreducible] runM runD cwp seqQ blkQ lpQ retQ asQ bdQ bdY retP
theorem rup_ct2 (cs : List (List Int)) (v : Int) (c : List Int) (hcs : ∀ c ∈ cs, c.length ≤ 1000000) (hl : c.length ≤ 1000000) :
    Ct Try.prog Hy 13 [cL cs, .i .i64 v, iL c] (if chkA cs v [c] = 0 then [.b (reachF cs v (turn c)).2, .i .i64 0] else [.b false, .i .i64 (chkA cs v [c])]) := by
  by_cases h0 : chkA cs v [c] = 0
  · obtain ⟨hv, hn, hc1, hc2⟩ := chk_ok h0
    exact rup_ct Hy cs v c hcs hl _ (reach_iff hv.1 hc1 (turn_lit (hc2 c List.mem_cons_self))).1
  · have h := rup_ct Hy cs v c hcs hl (@decide _ (Classical.propDecidable (Confl cs (GL (turn c))))) (by simp)
    rw [if_neg h0] at h ⊢
    exact h
def exC : List (List Int) := [[1, 2], [1, -2], [-1, 3], [-1, -3]]
theorem exC_lit : ∀ c ∈ exC, ∀ x ∈ c, LitV 3 x := by
  simp [exC, LitV]
theorem ex_prun : prunF exC [[1], [1, 3], [1, 2]] = [[1]] := by
  have hb := exC_lit
  have hl : ∀ c ∈ [[(1 : Int)], [1, 3], [1, 2]], ∀ x ∈ c, LitV 3 x := by simp [LitV]
  have hz : ∀ c ∈ ([] : List (List Int)), ∀ x ∈ c, LitV 3 x := fun _ h => absurd h List.not_mem_nil
  have key := fun k => leadsB_iff (v := 3) (by decide) [] (exC ++ [[1], [1, 3], [1, 2]].take k) (fun c hc => by
    rcases List.mem_append.1 hc with hc | hc
    · exact hb c hc
    · exact hl c (List.take_subset _ _ hc)) hz
  have h1 := (leadsB_iff (v := 3) (by decide) _ _ hb hl).1 (by decide +kernel)
  have k2 := (key 2).1 (by decide +kernel)
  have k1 := (key 1).1 (by decide +kernel)
  have k0 : ¬ LeadsC (exC ++ [[(1 : Int)], [1, 3], [1, 2]].take 0) [] := fun h => by
    have := (key 0).2 h
    revert this
    decide +kernel
  unfold prunF
  rw [if_pos h1]
  show prn exC [[1], [1, 3], [1, 2]] 3 [] = [[1]]
  unfold prn
  rw [if_pos k2]
  unfold prn
  rw [if_pos k1]
  unfold prn
  rw [if_neg k0]
  rfl
end Go.Proofs.Ytfflfmpkjcomgaa
