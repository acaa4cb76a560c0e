import Derived.Test.YtfflfmpkjcomgaaH15
namespace Go.Proofs.Ytfflfmpkjcomgaa
open Go.RowKit
set_option maxRecDepth 100000
set_option linter.unusedSimpArgs false
variable (Hy : World → Prop)
attribute [local irreducible] runM runD cwp seqQ blkQ lpQ retQ asQ bdQ bdY retP
theorem cloneI_ct (l : List Int) (h : l.length ≤ 1000000) : Ct Try.prog Hy 26 [iL l] [iL l] := by
  have hz : ∀ e ∈ l.map (fun x => [T.i .i64 x]), e.length = 1 := fun e he => by
    obtain ⟨x, _, rfl⟩ := List.mem_map.1 he
    rfl
  refine ct_of (cls := _root_.id) tt_ok follows_ Try.func26 rfl (by decide) (Nat.le_of_ble_eq_true rfl) ?_
  rw [show Try.f26.ntmps = 8 from rfl, s0_nf]
  simp only [List.zipIdx_cons, List.zipIdx_nil, List.map_cons, List.map_nil, Nat.reduceAdd, iL]
  repeat' first | refine c_seq ?_ | refine c_reg' rfl fun K E hK hE => ?_ | (refine r_opN fun κ η => ?_; simp only [go_sem, Nat.reduceLT, Nat.reduceEqDiff, Nat.reduceAdd, Nat.reduceMul, Nat.reduceLeDiff, Nat.le_refl, reduceIte, reduceCtorEq]; refine η _ ?_; clear η κ) | (refine r_nil (hK _ ?_); clear hE hK E K) | refine q_seq ?_
  refine r_nilE fun κ η => ?_; simp only [go_sem, Nat.reduceLT, Nat.reduceEqDiff, Nat.reduceAdd, Nat.reduceMul, Nat.reduceLeDiff, Nat.le_refl, reduceIte, reduceCtorEq]; refine ⟨η _ ?_, fun nil_ => η _ ?_⟩ <;> clear η κ
  · repeat' first | (refine r_nil (hK _ ?_); clear hE hK E K) | refine q_seq ?_
    refine c_cond _ rfl (fun hq => (by cases hq)) (fun hq => ?_)
    repeat' first | refine c_seq ?_ | refine c_reg' rfl fun K E hK hE => ?_ | (refine r_opN fun κ η => ?_; simp only [go_sem, Nat.reduceLT, Nat.reduceEqDiff, Nat.reduceAdd, Nat.reduceMul, Nat.reduceLeDiff, Nat.le_refl, reduceIte, reduceCtorEq, hz]; (repeat refine ⟨by omega, ?_⟩); refine η _ ?_; clear η κ) | (refine r_nil (hK _ ?_); clear hE hK E K) | refine q_seq ?_ | refine c_skip ?_ | refine c_ret ?_ | (refine q_ret ?_; refine q_r1 ?_; simp only [go_sem, Nat.reduceLT, Nat.reduceEqDiff, Nat.reduceAdd, Nat.reduceMul, Nat.reduceLeDiff, Nat.le_refl, reduceIte, reduceCtorEq, hz])
  · repeat' first | (refine r_nil (hK _ ?_); clear hE hK E K) | refine q_seq ?_
    refine c_cond _ rfl (fun hq => ?_) (fun hq => (by cases hq))
    repeat' first | refine c_seq ?_ | refine c_reg' rfl fun K E hK hE => ?_ | (refine r_opN fun κ η => ?_; simp only [go_sem, Nat.reduceLT, Nat.reduceEqDiff, Nat.reduceAdd, Nat.reduceMul, Nat.reduceLeDiff, Nat.le_refl, reduceIte, reduceCtorEq, nil_]; refine η _ ?_; clear η κ) | (refine r_nil (hK _ ?_); clear hE hK E K) | refine q_seq ?_ | refine c_ret ?_ | refine q_seqR ?_ | (refine q_ret ?_; refine q_r1 ?_; simp only [go_sem, Nat.reduceLT, Nat.reduceEqDiff, Nat.reduceAdd, Nat.reduceMul, Nat.reduceLeDiff, Nat.le_refl, reduceIte, reduceCtorEq, nil_])
theorem cloneK_ct (l : List Int) (h : l.length ≤ 1000000) : Ct Try.prog Hy 41 [iL l] [iL l] := by
  have hz : ∀ e ∈ l.map (fun x => [T.i .i64 x]), e.length = 1 := fun e he => by
    obtain ⟨x, _, rfl⟩ := List.mem_map.1 he
    rfl
  refine ct_of (cls := _root_.id) tt_ok follows_ Try.func41 rfl (by decide) (Nat.le_of_ble_eq_true rfl) ?_
  rw [show Try.f41.ntmps = 8 from rfl, s0_nf]
  simp only [List.zipIdx_cons, List.zipIdx_nil, List.map_cons, List.map_nil, Nat.reduceAdd, iL]
  repeat' first | refine c_seq ?_ | refine c_reg' rfl fun K E hK hE => ?_ | (refine r_opN fun κ η => ?_; simp only [go_sem, Nat.reduceLT, Nat.reduceEqDiff, Nat.reduceAdd, Nat.reduceMul, Nat.reduceLeDiff, Nat.le_refl, reduceIte, reduceCtorEq]; refine η _ ?_; clear η κ) | (refine r_nil (hK _ ?_); clear hE hK E K) | refine q_seq ?_
  refine r_nilE fun κ η => ?_; simp only [go_sem, Nat.reduceLT, Nat.reduceEqDiff, Nat.reduceAdd, Nat.reduceMul, Nat.reduceLeDiff, Nat.le_refl, reduceIte, reduceCtorEq]; refine ⟨η _ ?_, fun nil_ => η _ ?_⟩ <;> clear η κ
  · repeat' first | (refine r_nil (hK _ ?_); clear hE hK E K) | refine q_seq ?_
    refine c_cond _ rfl (fun hq => (by cases hq)) (fun hq => ?_)
    repeat' first | refine c_seq ?_ | refine c_reg' rfl fun K E hK hE => ?_ | (refine r_opN fun κ η => ?_; simp only [go_sem, Nat.reduceLT, Nat.reduceEqDiff, Nat.reduceAdd, Nat.reduceMul, Nat.reduceLeDiff, Nat.le_refl, reduceIte, reduceCtorEq, hz]; (repeat refine ⟨by omega, ?_⟩); refine η _ ?_; clear η κ) | (refine r_nil (hK _ ?_); clear hE hK E K) | refine q_seq ?_ | refine c_skip ?_ | refine c_ret ?_ | (refine q_ret ?_; refine q_r1 ?_; simp only [go_sem, Nat.reduceLT, Nat.reduceEqDiff, Nat.reduceAdd, Nat.reduceMul, Nat.reduceLeDiff, Nat.le_refl, reduceIte, reduceCtorEq, hz])
  · repeat' first | (refine r_nil (hK _ ?_); clear hE hK E K) | refine q_seq ?_
    refine c_cond _ rfl (fun hq => ?_) (fun hq => (by cases hq))
    repeat' first | refine c_seq ?_ | refine c_reg' rfl fun K E hK hE => ?_ | (refine r_opN fun κ η => ?_; simp only [go_sem, Nat.reduceLT, Nat.reduceEqDiff, Nat.reduceAdd, Nat.reduceMul, Nat.reduceLeDiff, Nat.le_refl, reduceIte, reduceCtorEq, nil_]; refine η _ ?_; clear η κ) | (refine r_nil (hK _ ?_); clear hE hK E K) | refine q_seq ?_ | refine c_ret ?_ | refine q_seqR ?_ | (refine q_ret ?_; refine q_r1 ?_; simp only [go_sem, Nat.reduceLT, Nat.reduceEqDiff, Nat.reduceAdd, Nat.reduceMul, Nat.reduceLeDiff, Nat.le_refl, reduceIte, reduceCtorEq, nil_])
theorem back_cm {o : Nat → O} (l : List (List Int)) : Cm Try.prog Hy 39 [.t (cL l)] o fun rs o' => rs = [.fn 58 [] [.ptr 890 ((o 890).gen + 1) 0]] ∧ o' 890 = ⟨(o 890).gen + 1, .cells 22 [.t (cL l)]⟩ ∧ Fr [890] o o' := by
  refine cm_of (cls := fun _ => 890) tt_ok follows_ Try.func39 rfl (by decide) (Nat.le_of_ble_eq_true rfl) ?_
  rw [show Try.f39.ntmps = 4 from rfl, s0_nf]
  simp only [List.zipIdx_cons, List.zipIdx_nil, List.map_cons, List.map_nil, Nat.reduceAdd, cL]
  repeat' first | refine c_seq ?_ | refine c_reg' rfl fun K E hK hE => ?_ | (refine r_opN fun κ η => ?_; simp only [go_sem, Nat.reduceLT, Nat.reduceEqDiff, Nat.reduceAdd, Nat.reduceMul, Nat.reduceLeDiff, Nat.le_refl, reduceIte, reduceCtorEq]; refine η _ ?_; clear η κ) | (refine r_nil (hK _ ?_); clear hE hK E K) | refine q_seq ?_ | refine c_ret ?_ | (refine q_ret ?_; refine q_r1 ?_; simp only [go_sem, Nat.reduceLT, Nat.reduceEqDiff, Nat.reduceAdd, Nat.reduceMul, Nat.reduceLeDiff, Nat.le_refl, reduceIte, reduceCtorEq])
  exact fr_nf (by simp)
open Classical in
/-- what is kept, from the last to the first -/
noncomputable def prn (cs l : List (List Int)) : Nat → List (List Int) → List (List Int)
  | 0, kp => kp
  | k + 1, kp => prn cs l k (if LeadsC (cs ++ l.take k) kp then kp else l.getD k [] :: kp)
open Classical in
noncomputable def prunF (cs l : List (List Int)) : List (List Int) := if LeadsC cs l then prn cs l l.length [] else []
/-- within Prune -/
structure InP (cs l : List (List Int)) (n : Nat) (k : Nat) (o : Nat → O) : Prop where
  a : o 3 = ⟨1, .cells 22 [.t (cL cs)]⟩
  b : o 5 = ⟨1, .cells 22 [.t (cL l)]⟩
  i : o 890 = ⟨n, .cells 22 [.t (cL l)]⟩
  c : ∃ kp x, o 9 = ⟨1, .cells 22 [x]⟩ ∧ ((x = .nilS ∧ kp = []) ∨ x = .t (cL kp)) ∧ prn cs l l.length [] = prn cs l k kp ∧ (∀ d ∈ kp, d ∈ l) ∧ kp.length + k ≤ l.length
theorem prune_ct (cs : List (List Int)) (v : Int) (l : List (List Int)) (hcs : ∀ c ∈ cs, c.length ≤ 1000000) (hl : ∀ c ∈ l, c.length ≤ 1000000) (hll : l.length ≤ 100000) :
    Ct Try.prog Hy 17 [cL cs, .i .i64 v, cL l] (if chkA cs v l = 0 then [cL (prunF cs l), .i .i64 0] else [cL [], .i .i64 (chkA cs v l)]) := by
  have h := checkAll_ct Hy cs l v hcs hl (by omega)
  simp only [cL] at h
  refine ct_of (cls := _root_.id) tt_ok follows_ Try.func17 rfl (by decide) (Nat.le_of_ble_eq_true rfl) ?_
  rw [show Try.f17.ntmps = 41 from rfl, s0_nf]
  simp only [List.zipIdx_cons, List.zipIdx_nil, List.map_cons, List.map_nil, Nat.reduceAdd, cL]
  by_cases h0 : chkA cs v l = 0
  case neg =>
    rw [if_neg h0]
    repeat' first | refine c_seq ?_ | refine c_reg' rfl fun K E hK hE => ?_ | (refine r_opN fun κ η => ?_; simp only [go_sem, Nat.reduceLT, Nat.reduceEqDiff, Nat.reduceAdd, Nat.reduceMul, Nat.reduceLeDiff, Nat.le_refl, reduceIte, reduceCtorEq]; refine η _ ?_; clear η κ) | (refine r_nil (hK _ ?_); clear hE hK E K) | refine q_seq ?_
    refine r_opN fun κ η => ?_; simp only [go_sem, Nat.reduceLT, Nat.reduceEqDiff, Nat.reduceAdd, Nat.reduceMul, Nat.reduceLeDiff, Nat.le_refl, reduceIte, reduceCtorEq]; refine ⟨_, h, ?_⟩; simp only [go_sem, Nat.reduceLT, Nat.reduceEqDiff, Nat.reduceAdd, Nat.reduceMul, Nat.reduceLeDiff, Nat.le_refl, reduceIte, reduceCtorEq]; refine η _ ?_; clear η κ
    repeat' first | refine c_seq ?_ | refine c_reg' rfl fun K E hK hE => ?_ | (refine r_opN fun κ η => ?_; simp only [go_sem, Nat.reduceLT, Nat.reduceEqDiff, Nat.reduceAdd, Nat.reduceMul, Nat.reduceLeDiff, Nat.le_refl, reduceIte, reduceCtorEq, h0]; refine η _ ?_; clear η κ) | (refine r_nil (hK _ ?_); clear hE hK E K) | refine q_seq ?_
    refine c_cond _ rfl (fun hq => ?_) (fun hq => (by simp [h0] at hq))
    repeat' first | refine c_seq ?_ | refine c_reg' rfl fun K E hK hE => ?_ | (refine r_opN fun κ η => ?_; simp only [go_sem, Nat.reduceLT, Nat.reduceEqDiff, Nat.reduceAdd, Nat.reduceMul, Nat.reduceLeDiff, Nat.le_refl, reduceIte, reduceCtorEq]; refine η _ ?_; clear η κ) | (refine r_nil (hK _ ?_); clear hE hK E K) | refine q_seq ?_ | refine c_ret ?_ | refine q_seqR ?_ | (refine q_ret ?_; refine q_r1 ?_; simp only [go_sem, Nat.reduceLT, Nat.reduceEqDiff, Nat.reduceAdd, Nat.reduceMul, Nat.reduceLeDiff, Nat.le_refl, reduceIte, reduceCtorEq])
  rw [if_pos h0]
  rw [h0] at h
  obtain ⟨hv, hn, hc1, hc2⟩ := chk_ok h0
  have hall : ∀ (ms l' : List (List Int)), (∀ d ∈ ms, d ∈ l) → (∀ d ∈ l', d ∈ l) → ∀ c ∈ cs ++ ms ++ l', c.length ≤ 1000000 ∧ ∀ x ∈ c, LitV v x := fun ms l' h1 h2 c hc => by
    rcases List.mem_append.1 hc with hc | hc
    · rcases List.mem_append.1 hc with hc | hc
      · exact ⟨hcs c hc, hc1 c hc⟩
      · exact ⟨hl c (h1 c hc), hc2 c (h1 c hc)⟩
    · exact ⟨hl c (h2 c hc), hc2 c (h2 c hc)⟩
  have hld := fun q h => leads_ct Hy (V := v) cs [] l hv (hall [] l (fun _ h => absurd h List.not_mem_nil) (fun _ h => h)) (by simp only [List.append_nil, List.length_append]; omega) q h
  simp only [cL, List.map_nil, List.append_nil] at hld
  by_cases hL : LeadsC cs l
  case neg =>
    have hpr : prunF cs l = [] := by unfold prunF; exact if_neg hL
    rw [hpr]
    repeat' first | refine c_seq ?_ | refine c_reg' rfl fun K E hK hE => ?_ | (refine r_opN fun κ η => ?_; simp only [go_sem, Nat.reduceLT, Nat.reduceEqDiff, Nat.reduceAdd, Nat.reduceMul, Nat.reduceLeDiff, Nat.le_refl, reduceIte, reduceCtorEq]; refine η _ ?_; clear η κ) | (refine r_nil (hK _ ?_); clear hE hK E K) | refine q_seq ?_
    refine r_opN fun κ η => ?_; simp only [go_sem, Nat.reduceLT, Nat.reduceEqDiff, Nat.reduceAdd, Nat.reduceMul, Nat.reduceLeDiff, Nat.le_refl, reduceIte, reduceCtorEq]; refine ⟨_, h, ?_⟩; simp only [go_sem, Nat.reduceLT, Nat.reduceEqDiff, Nat.reduceAdd, Nat.reduceMul, Nat.reduceLeDiff, Nat.le_refl, reduceIte, reduceCtorEq]; refine η _ ?_; clear η κ
    repeat' first | refine c_seq ?_ | refine c_reg' rfl fun K E hK hE => ?_ | (refine r_opN fun κ η => ?_; simp only [go_sem, Nat.reduceLT, Nat.reduceEqDiff, Nat.reduceAdd, Nat.reduceMul, Nat.reduceLeDiff, Nat.le_refl, reduceIte, reduceCtorEq]; refine η _ ?_; clear η κ) | (refine r_nil (hK _ ?_); clear hE hK E K) | refine q_seq ?_
    refine c_cond _ rfl (fun hq => (by cases hq)) (fun hq => ?_)
    repeat' first | refine c_seq ?_ | refine c_reg' rfl fun K E hK hE => ?_ | (refine r_opN fun κ η => ?_; simp only [go_sem, Nat.reduceLT, Nat.reduceEqDiff, Nat.reduceAdd, Nat.reduceMul, Nat.reduceLeDiff, Nat.le_refl, reduceIte, reduceCtorEq]; refine η _ ?_; clear η κ) | refine q_seq ?_ | refine c_skip ?_
    refine r_opN fun κ η => ?_; simp only [go_sem, Nat.reduceLT, Nat.reduceEqDiff, Nat.reduceAdd, Nat.reduceMul, Nat.reduceLeDiff, Nat.le_refl, reduceIte, reduceCtorEq]; refine ⟨_, hld false (by simp [hL]), ?_⟩; simp only [go_sem, Nat.reduceLT, Nat.reduceEqDiff, Nat.reduceAdd, Nat.reduceMul, Nat.reduceLeDiff, Nat.le_refl, reduceIte, reduceCtorEq]; refine η _ ?_; clear η κ
    repeat' first | (refine r_opN fun κ η => ?_; simp only [go_sem, Nat.reduceLT, Nat.reduceEqDiff, Nat.reduceAdd, Nat.reduceMul, Nat.reduceLeDiff, Nat.le_refl, reduceIte, reduceCtorEq]; refine η _ ?_; clear η κ) | (refine r_nil (hK _ ?_); clear hE hK E K) | refine q_seq ?_
    refine c_cond _ rfl (fun hq => ?_) (fun hq => (by cases hq))
    repeat' first | refine c_seq ?_ | refine c_reg' rfl fun K E hK hE => ?_ | (refine r_opN fun κ η => ?_; simp only [go_sem, Nat.reduceLT, Nat.reduceEqDiff, Nat.reduceAdd, Nat.reduceMul, Nat.reduceLeDiff, Nat.le_refl, reduceIte, reduceCtorEq]; refine η _ ?_; clear η κ) | (refine r_nil (hK _ ?_); clear hE hK E K) | refine q_seq ?_ | refine c_ret ?_ | refine q_seqR ?_ | (refine q_ret ?_; refine q_r1 ?_; simp only [go_sem, Nat.reduceLT, Nat.reduceEqDiff, Nat.reduceAdd, Nat.reduceMul, Nat.reduceLeDiff, Nat.le_refl, reduceIte, reduceCtorEq])
  have hpr : prunF cs l = prn cs l l.length [] := by unfold prunF; exact if_pos hL
  rw [hpr]
  repeat' first | refine c_seq ?_ | refine c_reg' rfl fun K E hK hE => ?_ | (refine r_opN fun κ η => ?_; simp only [go_sem, Nat.reduceLT, Nat.reduceEqDiff, Nat.reduceAdd, Nat.reduceMul, Nat.reduceLeDiff, Nat.le_refl, reduceIte, reduceCtorEq]; refine η _ ?_; clear η κ) | (refine r_nil (hK _ ?_); clear hE hK E K) | refine q_seq ?_
  refine r_opN fun κ η => ?_; simp only [go_sem, Nat.reduceLT, Nat.reduceEqDiff, Nat.reduceAdd, Nat.reduceMul, Nat.reduceLeDiff, Nat.le_refl, reduceIte, reduceCtorEq]; refine ⟨_, h, ?_⟩; simp only [go_sem, Nat.reduceLT, Nat.reduceEqDiff, Nat.reduceAdd, Nat.reduceMul, Nat.reduceLeDiff, Nat.le_refl, reduceIte, reduceCtorEq]; refine η _ ?_; clear η κ
  repeat' first | refine c_seq ?_ | refine c_reg' rfl fun K E hK hE => ?_ | (refine r_opN fun κ η => ?_; simp only [go_sem, Nat.reduceLT, Nat.reduceEqDiff, Nat.reduceAdd, Nat.reduceMul, Nat.reduceLeDiff, Nat.le_refl, reduceIte, reduceCtorEq]; refine η _ ?_; clear η κ) | (refine r_nil (hK _ ?_); clear hE hK E K) | refine q_seq ?_
  refine c_cond _ rfl (fun hq => (by cases hq)) (fun hq => ?_)
  repeat' first | refine c_seq ?_ | refine c_reg' rfl fun K E hK hE => ?_ | (refine r_opN fun κ η => ?_; simp only [go_sem, Nat.reduceLT, Nat.reduceEqDiff, Nat.reduceAdd, Nat.reduceMul, Nat.reduceLeDiff, Nat.le_refl, reduceIte, reduceCtorEq]; refine η _ ?_; clear η κ) | refine q_seq ?_ | refine c_skip ?_
  refine r_opN fun κ η => ?_; simp only [go_sem, Nat.reduceLT, Nat.reduceEqDiff, Nat.reduceAdd, Nat.reduceMul, Nat.reduceLeDiff, Nat.le_refl, reduceIte, reduceCtorEq]; refine ⟨_, hld true (by simp [hL]), ?_⟩; simp only [go_sem, Nat.reduceLT, Nat.reduceEqDiff, Nat.reduceAdd, Nat.reduceMul, Nat.reduceLeDiff, Nat.le_refl, reduceIte, reduceCtorEq]; refine η _ ?_; clear η κ
  repeat' first | (refine r_opN fun κ η => ?_; simp only [go_sem, Nat.reduceLT, Nat.reduceEqDiff, Nat.reduceAdd, Nat.reduceMul, Nat.reduceLeDiff, Nat.le_refl, reduceIte, reduceCtorEq]; refine η _ ?_; clear η κ) | (refine r_nil (hK _ ?_); clear hE hK E K) | refine q_seq ?_
  refine c_cond _ rfl (fun hq => (by cases hq)) (fun hq => ?_)
  have hbk := fun o => back_cm (o := o) Hy l
  simp only [cL] at hbk
  repeat' first | refine c_seq ?_ | refine c_reg' rfl fun K E hK hE => ?_ | (refine r_opN fun κ η => ?_; simp only [go_sem, Nat.reduceLT, Nat.reduceEqDiff, Nat.reduceAdd, Nat.reduceMul, Nat.reduceLeDiff, Nat.le_refl, reduceIte, reduceCtorEq]; refine η _ ?_; clear η κ) | (refine r_nil (hK _ ?_); clear hE hK E K) | refine q_seq ?_ | refine c_skip ?_
  refine r_call fun κ η => ?_; simp only [go_sem, Nat.reduceLT, Nat.reduceEqDiff, Nat.reduceAdd, Nat.reduceMul, Nat.reduceLeDiff, Nat.le_refl, reduceIte, reduceCtorEq]; refine ⟨_, hbk _, ?_⟩; rintro _ o2 ⟨rfl, ho, hF⟩; simp only [go_sem, Nat.reduceLT, Nat.reduceEqDiff, Nat.reduceAdd, Nat.reduceMul, Nat.reduceLeDiff, Nat.le_refl, reduceIte, reduceCtorEq]; refine η _ ?_; clear η κ
  repeat' first | refine c_block ?_ | (refine r_nil (hK _ ?_); clear hE hK E K) | refine q_seq ?_
  refine c_rangeY (YB l (InP cs l 1)) _ rfl (fun lb => backC_it Hy (by omega) (fun k o h => h.i) ?_ lb) (fun args o1 Rb hy => ?_) (fun rs o' hr => ?_)
  · exact ⟨(hF 3 (by simp)).trans rfl, (hF 5 (by simp)).trans rfl, ho, [], .nilS, (hF 9 (by simp)).trans rfl, .inl ⟨rfl, rfl⟩, rfl, fun _ h => absurd h List.not_mem_nil, by simp⟩
  · obtain ⟨k, c, rfl, hc, hi, hRb⟩ := hy
    refine ⟨rfl, ?_⟩
    obtain ⟨ha, hb, hii, kp, x, h9, hx, hpr, hkl, hlen⟩ := hi
    have hcl := hl c (List.mem_of_getElem? hc)
    have hkk := (List.getElem?_eq_some_iff.1 hc).1
    have hld2 := fun q h => leads_ct Hy (V := v) cs (l.take k) kp hv (hall (l.take k) kp (fun _ h => List.take_subset _ _ h) hkl) (by simp only [List.length_append, List.length_take]; omega) q h
    have hmap : (l.map fun c => [iL c]).take k = (l.take k).map fun c => [iL c] := List.map_take.symm
    have hclo := cloneK_ct Hy c hcl
    have hz1 := eq_true (ints1 l)
    have hnew : ∀ kp' x' (o2 : Nat → O), o2 3 = o1 3 → o2 5 = o1 5 → o2 890 = o1 890 → o2 9 = ⟨1, .cells 22 [x']⟩ → ((x' = .nilS ∧ kp' = []) ∨ x' = .t (cL kp')) → prn cs l (k + 1) kp = prn cs l k kp' → (∀ d ∈ kp', d ∈ l) → kp'.length ≤ kp.length + 1 → InP cs l 1 k o2 := fun kp' x' o2 e3 e5 e8 e9 e1 e2 e4 e6 => ⟨e3.trans ha, e5.trans hb, e8.trans hii, kp', x', e9, e1, hpr.trans e2, e4, by omega⟩
    have hcat := concatC_ct Hy [[c], kp] (by simp) (by simp; omega)
    simp only [cL] at hld2 ha hb hii h9 hx
    simp only [cL, lL, List.map_cons, List.map_nil, List.flatten_cons, List.flatten_nil, List.append_nil] at hcat
    simp only [go_sem]
    repeat' first | refine c_seq ?_ | refine c_reg' rfl fun K E hK hE => ?_ | (refine r_opN fun κ η => ?_; simp only [go_sem, Nat.reduceLT, Nat.reduceEqDiff, Nat.reduceAdd, Nat.reduceMul, Nat.reduceLeDiff, Nat.le_refl, reduceIte, reduceCtorEq]; refine η _ ?_; clear η κ) | (refine r_nil (hK _ ?_); clear hE hK E K) | refine q_seq ?_
    refine q_as ?_
    by_cases hL2 : LeadsC (cs ++ l.take k) kp
    · have hl3 := hld2 true (by simp [hL2])
      have hps : prn cs l (k + 1) kp = prn cs l k kp := by rw [prn, if_pos hL2]
      rcases hx with ⟨rfl, rfl⟩ | rfl
      · simp only [List.map_nil] at hl3
        repeat' first | refine c_seq ?_ | refine c_block ?_ | refine c_draw' rfl (by kernel_rfl) fun K E hK hE => ?_ | (refine d_opN (by kernel_rfl) fun κ η => ?_; simp only [go_sem, Nat.reduceLT, Nat.reduceEqDiff, Nat.reduceAdd, Nat.reduceMul, Nat.reduceLeDiff, Nat.le_refl, reduceIte, reduceCtorEq, ha, hb, h9, hmap, hz1]; (repeat refine ⟨by omega, ?_⟩); refine η _ ?_; clear η κ)
        refine d_opN (by kernel_rfl) fun κ η => ?_; simp only [go_sem, Nat.reduceLT, Nat.reduceEqDiff, Nat.reduceAdd, Nat.reduceMul, Nat.reduceLeDiff, Nat.le_refl, reduceIte, reduceCtorEq]; refine ⟨_, hl3, ?_⟩; simp only [go_sem, Nat.reduceLT, Nat.reduceEqDiff, Nat.reduceAdd, Nat.reduceMul, Nat.reduceLeDiff, Nat.le_refl, reduceIte, reduceCtorEq]; refine η _ ?_; clear η κ
        repeat' first | (refine d_opN (by kernel_rfl) fun κ η => ?_; simp only [go_sem, Nat.reduceLT, Nat.reduceEqDiff, Nat.reduceAdd, Nat.reduceMul, Nat.reduceLeDiff, Nat.le_refl, reduceIte, reduceCtorEq]; refine η _ ?_; clear η κ) | refine q_seq ?_ | (refine d_nil (hK _ ?_); clear hE hK E K)
        refine c_cond _ rfl (fun hq => (by cases hq)) (fun hq => ?_)
        repeat' first | refine q_blk ?_ | refine c_skip ?_
        refine q_by (hRb _ (hnew [] _ _ rfl rfl rfl h9 (.inl ⟨rfl, rfl⟩) hps hkl (by omega)))
      · repeat' first | refine c_seq ?_ | refine c_block ?_ | refine c_draw' rfl (by kernel_rfl) fun K E hK hE => ?_ | (refine d_opN (by kernel_rfl) fun κ η => ?_; simp only [go_sem, Nat.reduceLT, Nat.reduceEqDiff, Nat.reduceAdd, Nat.reduceMul, Nat.reduceLeDiff, Nat.le_refl, reduceIte, reduceCtorEq, ha, hb, h9, hmap, hz1]; (repeat refine ⟨by omega, ?_⟩); refine η _ ?_; clear η κ)
        refine d_opN (by kernel_rfl) fun κ η => ?_; simp only [go_sem, Nat.reduceLT, Nat.reduceEqDiff, Nat.reduceAdd, Nat.reduceMul, Nat.reduceLeDiff, Nat.le_refl, reduceIte, reduceCtorEq]; refine ⟨_, hl3, ?_⟩; simp only [go_sem, Nat.reduceLT, Nat.reduceEqDiff, Nat.reduceAdd, Nat.reduceMul, Nat.reduceLeDiff, Nat.le_refl, reduceIte, reduceCtorEq]; refine η _ ?_; clear η κ
        repeat' first | (refine d_opN (by kernel_rfl) fun κ η => ?_; simp only [go_sem, Nat.reduceLT, Nat.reduceEqDiff, Nat.reduceAdd, Nat.reduceMul, Nat.reduceLeDiff, Nat.le_refl, reduceIte, reduceCtorEq]; refine η _ ?_; clear η κ) | refine q_seq ?_ | (refine d_nil (hK _ ?_); clear hE hK E K)
        refine c_cond _ rfl (fun hq => (by cases hq)) (fun hq => ?_)
        repeat' first | refine q_blk ?_ | refine c_skip ?_
        refine q_by (hRb _ (hnew kp _ _ rfl rfl rfl h9 (.inr rfl) hps hkl (by omega)))
    · have hl3 := hld2 false (by simp [hL2])
      have hps : prn cs l (k + 1) kp = prn cs l k (c :: kp) := by rw [prn, if_neg hL2, List.getD_eq_getElem?_getD, hc]; rfl
      rcases hx with ⟨rfl, rfl⟩ | rfl
      · simp only [List.map_nil] at hl3 hcat
        have hcat2 := hcat
        simp only [iL] at hcat2
        repeat' first | refine c_seq ?_ | refine c_block ?_ | refine c_draw' rfl (by kernel_rfl) fun K E hK hE => ?_ | (refine d_opN (by kernel_rfl) fun κ η => ?_; simp only [go_sem, Nat.reduceLT, Nat.reduceEqDiff, Nat.reduceAdd, Nat.reduceMul, Nat.reduceLeDiff, Nat.le_refl, reduceIte, reduceCtorEq, ha, hb, h9, hmap, hz1]; (repeat refine ⟨by omega, ?_⟩); refine η _ ?_; clear η κ)
        refine d_opN (by kernel_rfl) fun κ η => ?_; simp only [go_sem, Nat.reduceLT, Nat.reduceEqDiff, Nat.reduceAdd, Nat.reduceMul, Nat.reduceLeDiff, Nat.le_refl, reduceIte, reduceCtorEq]; refine ⟨_, hl3, ?_⟩; simp only [go_sem, Nat.reduceLT, Nat.reduceEqDiff, Nat.reduceAdd, Nat.reduceMul, Nat.reduceLeDiff, Nat.le_refl, reduceIte, reduceCtorEq]; refine η _ ?_; clear η κ
        repeat' first | (refine d_opN (by kernel_rfl) fun κ η => ?_; simp only [go_sem, Nat.reduceLT, Nat.reduceEqDiff, Nat.reduceAdd, Nat.reduceMul, Nat.reduceLeDiff, Nat.le_refl, reduceIte, reduceCtorEq]; refine η _ ?_; clear η κ) | refine q_seq ?_ | (refine d_nil (hK _ ?_); clear hE hK E K)
        refine c_cond _ rfl (fun hq => ?_) (fun hq => (by cases hq))
        repeat' first | refine c_draw' rfl (by kernel_rfl) fun K E hK hE => ?_ | (refine d_opN (by kernel_rfl) fun κ η => ?_; simp only [go_sem, Nat.reduceLT, Nat.reduceEqDiff, Nat.reduceAdd, Nat.reduceMul, Nat.reduceLeDiff, Nat.le_refl, reduceIte, reduceCtorEq]; refine η _ ?_; clear η κ)
        refine d_opN (by kernel_rfl) fun κ η => ?_; simp only [go_sem, Nat.reduceLT, Nat.reduceEqDiff, Nat.reduceAdd, Nat.reduceMul, Nat.reduceLeDiff, Nat.le_refl, reduceIte, reduceCtorEq]; refine ⟨_, hclo, ?_⟩; simp only [go_sem, Nat.reduceLT, Nat.reduceEqDiff, Nat.reduceAdd, Nat.reduceMul, Nat.reduceLeDiff, Nat.le_refl, reduceIte, reduceCtorEq]; refine η _ ?_; clear η κ
        repeat' (refine d_opN (by kernel_rfl) fun κ η => ?_; simp only [go_sem, Nat.reduceLT, Nat.reduceEqDiff, Nat.reduceAdd, Nat.reduceMul, Nat.reduceLeDiff, Nat.le_refl, reduceIte, reduceCtorEq, h9, iL]; refine η _ ?_; clear η κ)
        refine d_callF (by kernel_rfl) fun κ η => ?_; simp only [go_sem, Nat.reduceLT, Nat.reduceEqDiff, Nat.reduceAdd, Nat.reduceMul, Nat.reduceLeDiff, Nat.le_refl, reduceIte, reduceCtorEq]; refine ⟨_, (Cm.of_ct hcat2), ?_⟩; rintro _ _ ⟨rfl, rfl⟩; simp only [go_sem, Nat.reduceLT, Nat.reduceEqDiff, Nat.reduceAdd, Nat.reduceMul, Nat.reduceLeDiff, Nat.le_refl, reduceIte, reduceCtorEq]; refine η _ ?_; clear η κ
        repeat' first | (refine d_opN (by kernel_rfl) fun κ η => ?_; simp only [go_sem, Nat.reduceLT, Nat.reduceEqDiff, Nat.reduceAdd, Nat.reduceMul, Nat.reduceLeDiff, Nat.le_refl, reduceIte, reduceCtorEq, h9]; refine η _ ?_; clear η κ) | (refine d_nil (hK _ ?_); clear hE hK E K) | refine q_blk ?_
        refine q_by (hRb _ (hnew (c :: []) (.t (cL (c :: []))) _ rfl rfl rfl rfl (.inr rfl) hps (fun d hd => by
          rcases List.mem_cons.1 hd with rfl | hd
          · exact List.mem_of_getElem? hc
          · exact hkl d hd) (by simp)))
      · have hcat2 := hcat
        simp only [iL] at hcat2
        repeat' first | refine c_seq ?_ | refine c_block ?_ | refine c_draw' rfl (by kernel_rfl) fun K E hK hE => ?_ | (refine d_opN (by kernel_rfl) fun κ η => ?_; simp only [go_sem, Nat.reduceLT, Nat.reduceEqDiff, Nat.reduceAdd, Nat.reduceMul, Nat.reduceLeDiff, Nat.le_refl, reduceIte, reduceCtorEq, ha, hb, h9, hmap, hz1]; (repeat refine ⟨by omega, ?_⟩); refine η _ ?_; clear η κ)
        refine d_opN (by kernel_rfl) fun κ η => ?_; simp only [go_sem, Nat.reduceLT, Nat.reduceEqDiff, Nat.reduceAdd, Nat.reduceMul, Nat.reduceLeDiff, Nat.le_refl, reduceIte, reduceCtorEq]; refine ⟨_, hl3, ?_⟩; simp only [go_sem, Nat.reduceLT, Nat.reduceEqDiff, Nat.reduceAdd, Nat.reduceMul, Nat.reduceLeDiff, Nat.le_refl, reduceIte, reduceCtorEq]; refine η _ ?_; clear η κ
        repeat' first | (refine d_opN (by kernel_rfl) fun κ η => ?_; simp only [go_sem, Nat.reduceLT, Nat.reduceEqDiff, Nat.reduceAdd, Nat.reduceMul, Nat.reduceLeDiff, Nat.le_refl, reduceIte, reduceCtorEq]; refine η _ ?_; clear η κ) | refine q_seq ?_ | (refine d_nil (hK _ ?_); clear hE hK E K)
        refine c_cond _ rfl (fun hq => ?_) (fun hq => (by cases hq))
        repeat' first | refine c_draw' rfl (by kernel_rfl) fun K E hK hE => ?_ | (refine d_opN (by kernel_rfl) fun κ η => ?_; simp only [go_sem, Nat.reduceLT, Nat.reduceEqDiff, Nat.reduceAdd, Nat.reduceMul, Nat.reduceLeDiff, Nat.le_refl, reduceIte, reduceCtorEq]; refine η _ ?_; clear η κ)
        refine d_opN (by kernel_rfl) fun κ η => ?_; simp only [go_sem, Nat.reduceLT, Nat.reduceEqDiff, Nat.reduceAdd, Nat.reduceMul, Nat.reduceLeDiff, Nat.le_refl, reduceIte, reduceCtorEq]; refine ⟨_, hclo, ?_⟩; simp only [go_sem, Nat.reduceLT, Nat.reduceEqDiff, Nat.reduceAdd, Nat.reduceMul, Nat.reduceLeDiff, Nat.le_refl, reduceIte, reduceCtorEq]; refine η _ ?_; clear η κ
        repeat' (refine d_opN (by kernel_rfl) fun κ η => ?_; simp only [go_sem, Nat.reduceLT, Nat.reduceEqDiff, Nat.reduceAdd, Nat.reduceMul, Nat.reduceLeDiff, Nat.le_refl, reduceIte, reduceCtorEq, h9, iL]; refine η _ ?_; clear η κ)
        refine d_callF (by kernel_rfl) fun κ η => ?_; simp only [go_sem, Nat.reduceLT, Nat.reduceEqDiff, Nat.reduceAdd, Nat.reduceMul, Nat.reduceLeDiff, Nat.le_refl, reduceIte, reduceCtorEq]; refine ⟨_, (Cm.of_ct hcat2), ?_⟩; rintro _ _ ⟨rfl, rfl⟩; simp only [go_sem, Nat.reduceLT, Nat.reduceEqDiff, Nat.reduceAdd, Nat.reduceMul, Nat.reduceLeDiff, Nat.le_refl, reduceIte, reduceCtorEq]; refine η _ ?_; clear η κ
        repeat' first | (refine d_opN (by kernel_rfl) fun κ η => ?_; simp only [go_sem, Nat.reduceLT, Nat.reduceEqDiff, Nat.reduceAdd, Nat.reduceMul, Nat.reduceLeDiff, Nat.le_refl, reduceIte, reduceCtorEq, h9]; refine η _ ?_; clear η κ) | (refine d_nil (hK _ ?_); clear hE hK E K) | refine q_blk ?_
        refine q_by (hRb _ (hnew (c :: kp) (.t (cL (c :: kp))) _ rfl rfl rfl rfl (.inr rfl) hps (fun d hd => by
          rcases List.mem_cons.1 hd with rfl | hd
          · exact List.mem_of_getElem? hc
          · exact hkl d hd) (by simp)))
  · obtain ⟨rfl, hi⟩ := hr
    obtain ⟨ha, hb, hii, kp, x, h9, hx, hpr, hkl, hlen⟩ := hi
    simp only [cL] at h9 hx
    rcases hx with ⟨rfl, rfl⟩ | rfl
    · repeat' first | refine c_seq ?_ | refine c_reg' rfl fun K E hK hE => ?_ | (refine r_opN fun κ η => ?_; simp only [go_sem, Nat.reduceLT, Nat.reduceEqDiff, Nat.reduceAdd, Nat.reduceMul, Nat.reduceLeDiff, Nat.le_refl, reduceIte, reduceCtorEq, h9]; refine η _ ?_; clear η κ) | (refine r_nil (hK _ ?_); clear hE hK E K) | refine q_seq ?_ | refine q_blk ?_ | refine c_ret ?_ | (refine q_ret ?_; refine q_r1 ?_; simp only [go_sem, Nat.reduceLT, Nat.reduceEqDiff, Nat.reduceAdd, Nat.reduceMul, Nat.reduceLeDiff, Nat.le_refl, reduceIte, reduceCtorEq, h9])
      rw [hpr]
      rfl
    · repeat' first | refine c_seq ?_ | refine c_reg' rfl fun K E hK hE => ?_ | (refine r_opN fun κ η => ?_; simp only [go_sem, Nat.reduceLT, Nat.reduceEqDiff, Nat.reduceAdd, Nat.reduceMul, Nat.reduceLeDiff, Nat.le_refl, reduceIte, reduceCtorEq, h9]; refine η _ ?_; clear η κ) | (refine r_nil (hK _ ?_); clear hE hK E K) | refine q_seq ?_ | refine q_blk ?_ | refine c_ret ?_ | (refine q_ret ?_; refine q_r1 ?_; simp only [go_sem, Nat.reduceLT, Nat.reduceEqDiff, Nat.reduceAdd, Nat.reduceMul, Nat.reduceLeDiff, Nat.le_refl, reduceIte, reduceCtorEq, h9])
      rw [hpr]
      rfl
end Go.Proofs.Ytfflfmpkjcomgaa
namespace Go.Proofs.Ytfflfmpkjcomgaa
open Go.RowKit
set_option maxRecDepth 100000
set_option linter.unusedSimpArgs false
variable (Hy : World → Prop)
attribute [local irreducible] runM runD cwp seqQ blkQ lpQ retQ asQ bdQ bdY retP
/-- after a conflict nothing goes on -/
theorem goesOnC_it {p : Pv} {g1 g2 g5 g11 : Nat} {hg : Int → Nat} {o : Nat → O} (hP : Prv o p g1 g2 g5 hg) (hcf : p.cf = true) (h11 : o 911 = ⟨g11, .cells 47 [.ptr 900 1 0]⟩) (l : Nat) :
    CmY Try.prog Hy 78 l (fun _ _ _ => False) [.t (.yl l), .ptr 911 g11 0] o fun rs o' => rs = [] ∧ o' = o := by
  have hb := hP.b
  have ht := hP.t
  refine cmY_of (cls := _root_.id) tt_ok follows_ Try.func78 rfl (by decide) (Nat.le_of_ble_eq_true rfl) ?_
  rw [show Try.f78.ntmps = 41 from rfl, s0_nf]
  simp only [List.zipIdx_cons, List.zipIdx_nil, List.map_cons, List.map_nil, Nat.reduceAdd]
  repeat' refine c_block ?_
  refine c_loop (fun m s' => ∃ F oc, m = 0 ∧ s' = nf 41 F oc [(0, .t (.yl l)), (1, .ptr 911 g11 0)] [] ∧ oc = o) 0 ?_ ?_
  · exact ⟨_, _, rfl, nf_of rfl ⟨rfl, rfl, trivial⟩ trivial, rfl⟩
  rintro m s' ⟨F, oc, rfl, rfl, rfl⟩
  by_cases c1 : p.wn < p.tr.length
  · repeat' first | refine c_seq ?_ | refine c_draw' rfl (by kernel_rfl) fun K E hK hE => ?_ | ((first | refine d_opN (by kernel_rfl) fun κ η => ?_ | refine d_opG (by kernel_rfl) rfl fun κ η => ?_); simp only [go_sem, Nat.reduceLT, Nat.reduceEqDiff, Nat.reduceAdd, Nat.reduceMul, Nat.reduceLeDiff, Nat.le_refl, reduceIte, reduceCtorEq, h11, hb, ht, c1, hcf]; (repeat refine ⟨by omega, ?_⟩); refine η _ ?_; clear η κ) | refine q_seq ?_ | (refine d_nil (hK _ ?_); clear hE hK E K)
    refine c_cond _ rfl (fun hq => (by cases hq)) (fun hq => ?_)
    repeat' first | refine c_exit ?_ | refine q_seqE ?_ | refine q_blkHit ?_ | refine q_lpE ?_ | (refine q_end ?_; refine q_r0 ?_; simp only [go_sem, Nat.reduceLT, Nat.reduceEqDiff, Nat.reduceAdd, Nat.reduceMul, Nat.reduceLeDiff, Nat.le_refl, reduceIte, reduceCtorEq])
  · repeat' first | refine c_seq ?_ | refine c_draw' rfl (by kernel_rfl) fun K E hK hE => ?_ | ((first | refine d_opN (by kernel_rfl) fun κ η => ?_ | refine d_opG (by kernel_rfl) rfl fun κ η => ?_); simp only [go_sem, Nat.reduceLT, Nat.reduceEqDiff, Nat.reduceAdd, Nat.reduceMul, Nat.reduceLeDiff, Nat.le_refl, reduceIte, reduceCtorEq, h11, hb, ht, c1]; (repeat refine ⟨by omega, ?_⟩); refine η _ ?_; clear η κ) | refine q_seq ?_ | (refine d_nil (hK _ ?_); clear hE hK E K)
    refine c_cond _ rfl (fun hq => (by cases hq)) (fun hq => ?_)
    repeat' first | refine c_exit ?_ | refine q_seqE ?_ | refine q_blkHit ?_ | refine q_lpE ?_ | (refine q_end ?_; refine q_r0 ?_; simp only [go_sem, Nat.reduceLT, Nat.reduceEqDiff, Nat.reduceAdd, Nat.reduceMul, Nat.reduceLeDiff, Nat.le_refl, reduceIte, reduceCtorEq])
theorem propagateC_cm {o : Nat → O} {p : Pv} {g1 g2 g5 : Nat} {hg : Int → Nat} (hP : Prv o p g1 g2 g5 hg) (hcf : p.cf = true) :
    Cm Try.prog Hy 48 [.ptr 900 1 0] o fun rs o' => rs = [] ∧ Prv o' p g1 g2 g5 hg ∧ Fr idsP o o' := by
  refine cm_of (cls := fun _ => 910) tt_ok follows_ Try.func48 rfl (by decide) (Nat.le_of_ble_eq_true rfl) ?_
  rw [show Try.f48.ntmps = 41 from rfl, s0_nf]
  simp only [List.zipIdx_cons, List.zipIdx_nil, List.map_cons, List.map_nil, Nat.reduceAdd]
  repeat' first | refine c_seq ?_ | refine c_reg' rfl fun K E hK hE => ?_ | (refine r_opN fun κ η => ?_; simp only [go_sem, Nat.reduceLT, Nat.reduceEqDiff, Nat.reduceAdd, Nat.reduceMul, Nat.reduceLeDiff, Nat.le_refl, reduceIte, reduceCtorEq]; refine η _ ?_; clear η κ) | (refine r_nil (hK _ ?_); clear hE hK E K) | refine q_seq ?_
  refine r_call fun κ η => ?_; simp only [go_sem, Nat.reduceLT, Nat.reduceEqDiff, Nat.reduceAdd, Nat.reduceMul, Nat.reduceLeDiff, Nat.le_refl, reduceIte, reduceCtorEq]; refine ⟨_, goesOn_cm Hy, ?_⟩; rintro _ o2 ⟨rfl, h11, hF2⟩; simp only [go_sem, Nat.reduceLT, Nat.reduceEqDiff, Nat.reduceAdd, Nat.reduceMul, Nat.reduceLeDiff, Nat.le_refl, reduceIte, reduceCtorEq]; refine η _ ?_; clear η κ
  have hF : Fr idsP o o2 := (fr_nf (by simp [idsP]) : Fr idsP o (nf 41 (fun _ => A.junk) o [] [(910, _)]).o).trans (hF2.mono (by simp [idsP]))
  replace hP := (hP.fr (fr_nf (by simp) : Fr [910] o (nf 41 (fun _ => A.junk) o [] [(910, _)]).o) (by simp)).fr hF2 (by simp)
  repeat' first | refine c_block ?_ | (refine r_nil (hK _ ?_); clear hE hK E K) | refine q_seq ?_
  refine c_rangeY (fun _ _ _ => False) _ rfl (fun l => goesOnC_it Hy hP hcf h11 l) (fun args o1 Rb hy => hy.elim) (fun rs o' hr => ?_)
  obtain ⟨rfl, rfl⟩ := hr
  repeat' first | refine q_blk ?_ | (refine q_end ?_; refine q_r0 ?_; simp only [go_sem, Nat.reduceLT, Nat.reduceEqDiff, Nat.reduceAdd, Nat.reduceMul, Nat.reduceLeDiff, Nat.le_refl, reduceIte, reduceCtorEq])
  exact ⟨hP, hF⟩
theorem holdP_cf {p : Pv} {x : Int} (h : p.cf = true) : (holdP p x).cf = true := by
  unfold holdP
  split
  · rfl
  · split
    · exact h
    · exact h
theorem assumeC_cm {V : Int} {o : Nat → O} {p0 : Pv} {g1 g2 g5 : Nat} {hg : Int → Nat} (l : List Int) (hV : 0 ≤ V ∧ V ≤ 20000) (hP : Prv o p0 g1 g2 g5 hg) (hcf : p0.cf = true) (hw : Wt V p0) (hl : ∀ x ∈ l, LitV V x) (hll : l.length ≤ 1000000) :
    Cm Try.prog Hy 25 [.ptr 900 1 0, .t (iL l)] o fun rs o' => rs = [] ∧ ∃ p' g, Prv o' p' g1 g2 g hg ∧ p'.cf = true ∧ Fr idsP o o' := by
  refine cm_of (cls := fun _ => 910) tt_ok follows_ Try.func25 rfl (by decide) (Nat.le_of_ble_eq_true rfl) ?_
  rw [show Try.f25.ntmps = 18 from rfl, s0_nf]
  simp only [List.zipIdx_cons, List.zipIdx_nil, List.map_cons, List.map_nil, Nat.reduceAdd, iL]
  repeat' first | refine c_seq ?_ | refine c_block ?_ | refine c_reg' rfl fun K E hK hE => ?_ | (refine r_opN fun κ η => ?_; simp only [go_sem, Nat.reduceLT, Nat.reduceEqDiff, Nat.reduceAdd, Nat.reduceMul, Nat.reduceLeDiff, Nat.le_refl, reduceIte, reduceCtorEq]; refine η _ ?_; clear η κ) | (refine r_nil (hK _ ?_); clear hE hK E K) | refine q_seq ?_
  refine c_loop (fun m s' => ∃ k q F oc g, m = l.length - k ∧ k ≤ l.length ∧ s' = nf 18 F oc [(0, .ptr 900 1 0), (6, .t (iL l)), (7, .t (.i .i64 l.length)), (8, .t (.i .i64 (k : Nat)))] [] ∧ Prv oc q g1 g2 g hg ∧ q.cf = true ∧ Wt V q ∧ Fr idsP o oc) l.length ?_ ?_
  · exact ⟨0, p0, _, _, g5, by omega, by omega, nf_of rfl ⟨rfl, rfl, rfl, rfl, trivial⟩ trivial, hP, hcf, hw, Fr.refl _ _⟩
  clear hP hw hcf
  rintro m s' ⟨k, q, F, oc, g, rfl, hk, rfl, hP, hcf, hw, hF⟩
  have htl := lits_len hw.tn hw.tb hV.1
  simp only [iL]
  repeat' first | refine c_seq ?_ | refine c_reg' rfl fun K E hK hE => ?_ | (refine r_opN fun κ η => ?_; simp only [go_sem, Nat.reduceLT, Nat.reduceEqDiff, Nat.reduceAdd, Nat.reduceMul, Nat.reduceLeDiff, Nat.le_refl, reduceIte, reduceCtorEq]; refine η _ ?_; clear η κ) | (refine r_nil (hK _ ?_); clear hE hK E K) | refine q_seq ?_
  refine c_cond _ rfl (fun hq => ?_) (fun hq => ?_)
  · simp only [decide_eq_true_eq] at hq
    obtain ⟨x, hx⟩ : ∃ x, l[k]? = some x := ⟨_, List.getElem?_eq_getElem (by omega)⟩
    have hlx := hl x (List.mem_of_getElem? hx)
    repeat' first | refine c_seq ?_ | refine c_block ?_ | refine c_reg' rfl fun K E hK hE => ?_ | (refine r_opN fun κ η => ?_; simp only [go_sem, Nat.reduceLT, Nat.reduceEqDiff, Nat.reduceAdd, Nat.reduceMul, Nat.reduceLeDiff, Nat.le_refl, reduceIte, reduceCtorEq, hx]; (repeat refine ⟨by omega, ?_⟩); refine η _ ?_; clear η κ) | (refine r_nil (hK _ ?_); clear hE hK E K) | refine q_seq ?_ | refine c_skip ?_
    refine r_call fun κ η => ?_; simp only [go_sem, Nat.reduceLT, Nat.reduceEqDiff, Nat.reduceAdd, Nat.reduceMul, Nat.reduceLeDiff, Nat.le_refl, reduceIte, reduceCtorEq]; refine ⟨_, hold_cm Hy hP x (by unfold LitV at hlx; unfold Lit64; omega) (by omega), ?_⟩; rintro _ o2 ⟨rfl, ⟨g', hP2⟩, hF2⟩; simp only [go_sem, Nat.reduceLT, Nat.reduceEqDiff, Nat.reduceAdd, Nat.reduceMul, Nat.reduceLeDiff, Nat.le_refl, reduceIte, reduceCtorEq]; refine η _ ?_; clear η κ
    repeat' first | refine c_reg' rfl fun K E hK hE => ?_ | (refine r_opN fun κ η => ?_; simp only [go_sem, Nat.reduceLT, Nat.reduceEqDiff, Nat.reduceAdd, Nat.reduceMul, Nat.reduceLeDiff, Nat.le_refl, reduceIte, reduceCtorEq]; (repeat refine ⟨by omega, ?_⟩); refine η _ ?_; clear η κ) | (refine r_nil (hK _ ?_); clear hE hK E K) | refine q_seq ?_ | refine q_blk ?_ | refine q_lpN ?_
    exact ⟨l.length - (k + 1), by omega, k + 1, _, _, _, g', rfl, by omega, nf_of rfl ⟨rfl, rfl, rfl, rfl, trivial⟩ trivial, hP2, holdP_cf hcf, hold_wt hw hlx, hF.trans (hF2.mono (by simp [idsP]))⟩
  · simp only [decide_eq_false_iff_not] at hq
    repeat' first | refine c_reg' rfl fun K E hK hE => ?_ | (refine r_opN fun κ η => ?_; simp only [go_sem, Nat.reduceLT, Nat.reduceEqDiff, Nat.reduceAdd, Nat.reduceMul, Nat.reduceLeDiff, Nat.le_refl, reduceIte, reduceCtorEq]; refine η _ ?_; clear η κ) | refine q_seq ?_ | refine c_exit ?_ | refine q_seqE ?_ | refine q_blkHit ?_ | refine q_lpE ?_
    refine r_call fun κ η => ?_; simp only [go_sem, Nat.reduceLT, Nat.reduceEqDiff, Nat.reduceAdd, Nat.reduceMul, Nat.reduceLeDiff, Nat.le_refl, reduceIte, reduceCtorEq]; refine ⟨_, propagateC_cm Hy hP hcf, ?_⟩; rintro _ o2 ⟨rfl, hP2, hF2⟩; simp only [go_sem, Nat.reduceLT, Nat.reduceEqDiff, Nat.reduceAdd, Nat.reduceMul, Nat.reduceLeDiff, Nat.le_refl, reduceIte, reduceCtorEq]; refine η _ ?_; clear η κ
    repeat' first | (refine r_nil (hK _ ?_); clear hE hK E K) | (refine q_end ?_; refine q_r0 ?_; simp only [go_sem, Nat.reduceLT, Nat.reduceEqDiff, Nat.reduceAdd, Nat.reduceMul, Nat.reduceLeDiff, Nat.le_refl, reduceIte, reduceCtorEq])
    exact ⟨q, g, hP2, hcf, hF.trans hF2⟩
/-- what holds, of clauses, if some literals do -/
theorem assume_inv {V : Int} {o : Nat → O} {p : Pv} {cs : List (List Int)} {g1 g2 g5 : Nat} {hg : Int → Nat} (l : List Int) (hV : 0 ≤ V ∧ V ≤ 20000) (hP : Prv o p g1 g2 g5 hg) (hi : Inv V cs p) (h1 : cs.length < 1000000) (h2 : ∀ c ∈ cs, c.length ≤ 1000000) (hl : ∀ x ∈ l, LitV V x) (hll : l.length ≤ 1000000) :
    Cm Try.prog Hy 25 [.ptr 900 1 0, .t (iL l)] o fun rs o' => rs = [] ∧ ∃ p' g, Prv o' p' g1 g2 g hg ∧ Fr idsP o o' ∧ (p'.cf = true ↔ Confl cs (GL l)) ∧ (p'.cf = false → Wt V p' ∧ ∀ x, Un cs (GL l) x ↔ x ∈ p'.tr) := by
  have hf := inv_fit hi h1 h2
  rcases hi with ⟨hc, hcl, hw⟩ | ⟨hcmp, e⟩
  · refine (assumeC_cm Hy l hV hP hc hw hl hll).mono ?_
    rintro rs o' ⟨rfl, p', g, k1, k2, k3⟩
    refine ⟨rfl, p', g, k1, k3, iff_of_true k2 (hcl.mono (fun c hc => ⟨c, hc, fun _ => Iff.rfl⟩) fun _ e => e.elim), fun e => ?_⟩
    rw [k2] at e
    cases e
  · have hcff := hcmp.c
    have hfit := hf.resolve_left (by rw [hcff]; decide)
    have hsn : Snd p (GL l) := ⟨fun x hx => (hcmp.n x hx).mono (fun c hc => ⟨c, hc, fun _ => Iff.rfl⟩) (fun _ e => e.elim), fun e => by rw [hcff] at e; cases e⟩
    refine (assume_cm Hy l hV hP hcmp.w hcmp.s hsn ⟨Nat.le_of_lt hfit.1, hfit.2⟩ hl hll).mono ?_
    rintro rs o' ⟨rfl, p', g, k1, hgood, hend, k3⟩
    have hcs := hgood.cs
    have hno : p'.cf = false → (∀ x, Un p'.cs (GL l) x ↔ x ∈ p'.tr) ∧ ¬ Confl p'.cs (GL l) := fun hn => by
      obtain ⟨h1, h2⟩ := hend.resolve_left (by rw [hn]; decide)
      exact done_un hgood.w hgood.s hgood.n h2 h1 hn
    have hun : ∀ x, Un p'.cs (GL l) x ↔ Un cs (GL l) x := fun x => by
      rw [hcs, e]
      exact ⟨fun h => h.mono (dd_mono fun _ h => h) fun _ h => .given h, fun h => h.mono (dd_mono2 fun _ h => h) fun _ h => .given h⟩
    have hcc : Confl p'.cs (GL l) ↔ Confl cs (GL l) := by rw [hcs, e, confl_dd]
    refine ⟨rfl, p', g, k1, k3, ⟨fun hc => hcc.1 (hgood.n.2 hc), fun hc => ?_⟩, fun hn => ⟨hgood.w.wt, fun x => ?_⟩⟩
    · refine Classical.byContradiction fun hn => ?_
      exact (hno (by simpa using hn)).2 (hcc.2 hc)
    · rw [← hun x]
      exact (hno hn).1 x
end Go.Proofs.Ytfflfmpkjcomgaa
