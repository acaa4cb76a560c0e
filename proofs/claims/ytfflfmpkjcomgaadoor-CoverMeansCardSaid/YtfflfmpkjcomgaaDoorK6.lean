import Derived.Test.YtfflfmpkjcomgaaDoorK5
namespace Go.Proofs.YtfflfmpkjcomgaaDoor
open Go.RowKit
set_option maxRecDepth 100000
set_option linter.unusedSimpArgs false
variable (Hy : World → Prop)
attribute [local irreducible] runM runD cwp seqQ blkQ lpQ retQ asQ bdQ bdY retP endR preD retD
def litV (ins : List Bool) (lit : Int) : Bool := ins.getD (lit / 2).toNat false != decide (lit % 2 = 1)
def foldV (isand : Bool) (step : List Fm → Option (List Fm)) (v : List Fm → Bool) : Nat → List Fm → Bool → Bool
  | 0, _, b => b
  | k + 1, l, b => match step l with
    | some r => foldV isand step v k r (if isand then b && v l else b || v l)
    | none => b
/-- what the first form comes to -/
def evalF (ins : List Bool) : Nat → List Fm → Bool
  | 0, _ => false
  | _ + 1, [] => false
  | d + 1, f :: l => if f.k = 0 then false else if f.k = 1 then true else if f.k = 2 then litV ins f.lit
    else foldV (decide (f.k = 3)) (formF ins.length d) (evalF ins d) f.kids.toNat l (decide (f.k = 3))
theorem foldV_step {a : Bool} {step : List Fm → Option (List Fm)} {v : List Fm → Bool} {k : Nat} {l r : List Fm} {b : Bool} (h : step l = some r) : foldV a step v (k + 1) l b = foldV a step v k r (if a then b && v l else b || v l) := by
  conv => lhs; unfold foldV
  rw [h]
theorem plainB_get {n : Int} {f : Fm} (h : plainB n f = true) : (f.k = 0 ∨ f.k = 1) ∧ f.kids = 0 ∨ f.k = 2 ∧ 0 ≤ f.lit ∧ f.lit < 2 * n ∨ (f.k = 3 ∨ f.k = 4) ∧ 2 ≤ f.kids := by
  unfold plainB at h
  split at h
  · have := of_decide_eq_true h; omega
  · split at h
    · have := of_decide_eq_true h; omega
    · have := of_decide_eq_true h; omega
theorem form_some {n : Int} {d : Nat} {f : Fm} {l r : List Fm} (h : formF n (d + 1) (f :: l) = some r) : plainB n f = true ∧ kidsF (formF n d) f.kids.toNat l = some r := by
  unfold formF at h
  split at h
  · exact ⟨‹_›, h⟩
  · cases h
set_option maxHeartbeats 8000000 in
theorem eval_ct (ins : List Bool) (hi : ins.length ≤ 4000) : ∀ (d : Nat) (l r : List Fm), l.length ≤ d → l.length ≤ 1000000 → InF l → formF ins.length d l = some r → Ct Tryd.prog Hy 33 [fL l, bL ins] [.b (evalF ins d l), fL r] := by
  intro d
  induction d with
  | zero =>
    intro l r _ _ _ h
    cases h
  | succ d ih =>
    intro l r hl hl2 hr hf
    cases l with
    | nil => cases hf
    | cons f l =>
      obtain ⟨hp, hkf⟩ := form_some hf
      have hk := plainB_kids hp
      have hg := plainB_get hp
      have hrf := hr f List.mem_cons_self
      obtain ⟨k, lit, kids⟩ := f
      have hc1 := cut1 [T.i .i64 k, T.i .i64 lit, T.i .i64 kids] (l.map fun f => [T.i .i64 f.k, T.i .i64 f.lit, T.i .i64 f.kids]) l.length (by simp)
      have hz := eq_true (fm3 (⟨k, lit, kids⟩ :: l))
      simp only [List.map_cons] at hz
      rw [List.length_cons] at hl hl2
      have hr2 : InF l := fun f h => hr f (List.mem_cons_of_mem _ h)
      simp only at hk hg hrf hkf
      refine ct_of (cls := _root_.id) tt_ok follows_ Tryd.func33 rfl (by decide) (Nat.le_of_ble_eq_true rfl) ?_
      rw [show Tryd.f33.ntmps = 65 from rfl, s0_nf]
      simp only [List.zipIdx_cons, List.zipIdx_nil, List.map_cons, List.map_nil, Nat.reduceAdd, fL, bL, List.map_cons]
      rcases hg with ⟨rfl | rfl, rfl⟩ | ⟨rfl, hl3, hl4⟩ | ⟨hk34, hk2⟩
      · have e5 : l = r := Option.some.inj hkf
        subst e5
        repeat' first | refine c_seq ?_ | refine c_block ?_ | refine c_reg' rfl fun K E hK hE => ?_ | refine c_draw' rfl (by kernel_rfl) fun K E hK hE => ?_ | ((first | refine r_opN fun κ η => ?_ | refine d_opN (by kernel_rfl) fun κ η => ?_); simp only [go_sem, Nat.reduceLT, Nat.reduceEqDiff, Nat.reduceAdd, Nat.reduceMul, Nat.reduceLeDiff, Nat.le_refl, reduceIte, reduceCtorEq, List.length_cons, List.length_map, hz, hc1]; (repeat refine ⟨by omega, ?_⟩); refine η _ ?_; clear η κ) | (refine r_nil (hK _ ?_); clear hE hK E K) | refine q_seq ?_ | (refine d_nil (hK _ ?_); clear hE hK E K)
        refine c_cond _ rfl (fun hq => ?_) (fun hq => (by cases hq))
        repeat' first | refine q_seq ?_ | refine c_skip ?_
        refine c_cond _ rfl (fun hq => ?_) (fun hq => (by cases hq))
        repeat' first | refine c_seq ?_ | refine c_reg' rfl fun K E hK hE => ?_ | (refine r_opN fun κ η => ?_; simp only [go_sem, Nat.reduceLT, Nat.reduceEqDiff, Nat.reduceAdd, Nat.reduceMul, Nat.reduceLeDiff, Nat.le_refl, reduceIte, reduceCtorEq, Int.reduceEq]; (repeat refine ⟨by omega, ?_⟩); refine η _ ?_; clear η κ) | (refine r_nil (hK _ ?_); clear hE hK E K) | refine q_seq ?_ | refine c_ret ?_ | refine q_seqR ?_ | refine q_blkR ?_ | (refine q_ret ?_; refine q_r1 ?_; simp only [go_sem, Nat.reduceLT, Nat.reduceEqDiff, Nat.reduceAdd, Nat.reduceMul, Nat.reduceLeDiff, Nat.le_refl, reduceIte, reduceCtorEq, Int.reduceEq])
        rfl
      · have e5 : l = r := Option.some.inj hkf
        subst e5
        repeat' first | refine c_seq ?_ | refine c_block ?_ | refine c_reg' rfl fun K E hK hE => ?_ | refine c_draw' rfl (by kernel_rfl) fun K E hK hE => ?_ | ((first | refine r_opN fun κ η => ?_ | refine d_opN (by kernel_rfl) fun κ η => ?_); simp only [go_sem, Nat.reduceLT, Nat.reduceEqDiff, Nat.reduceAdd, Nat.reduceMul, Nat.reduceLeDiff, Nat.le_refl, reduceIte, reduceCtorEq, List.length_cons, List.length_map, hz, hc1]; (repeat refine ⟨by omega, ?_⟩); refine η _ ?_; clear η κ) | (refine r_nil (hK _ ?_); clear hE hK E K) | refine q_seq ?_ | (refine d_nil (hK _ ?_); clear hE hK E K)
        refine c_cond _ rfl (fun hq => (by cases hq)) (fun hq => ?_)
        repeat' first | refine c_reg' rfl fun K E hK hE => ?_ | (refine r_opN fun κ η => ?_; simp only [go_sem, Nat.reduceLT, Nat.reduceEqDiff, Nat.reduceAdd, Nat.reduceMul, Nat.reduceLeDiff, Nat.le_refl, reduceIte, reduceCtorEq]; refine η _ ?_; clear η κ) | (refine r_nil (hK _ ?_); clear hE hK E K) | refine q_seq ?_
        refine c_cond _ rfl (fun hq => ?_) (fun hq => (by cases hq))
        repeat' first | refine c_seq ?_ | refine c_reg' rfl fun K E hK hE => ?_ | (refine r_opN fun κ η => ?_; simp only [go_sem, Nat.reduceLT, Nat.reduceEqDiff, Nat.reduceAdd, Nat.reduceMul, Nat.reduceLeDiff, Nat.le_refl, reduceIte, reduceCtorEq, Int.reduceEq]; (repeat refine ⟨by omega, ?_⟩); refine η _ ?_; clear η κ) | (refine r_nil (hK _ ?_); clear hE hK E K) | refine q_seq ?_ | refine c_ret ?_ | refine q_seqR ?_ | refine q_blkR ?_ | (refine q_ret ?_; refine q_r1 ?_; simp only [go_sem, Nat.reduceLT, Nat.reduceEqDiff, Nat.reduceAdd, Nat.reduceMul, Nat.reduceLeDiff, Nat.le_refl, reduceIte, reduceCtorEq, Int.reduceEq])
        rfl
      · have h0 := (form_some hf).1
        have hkz : kids = 0 := by
          unfold plainB at h0
          simp at h0
          exact h0.2.2
        subst hkz
        have e5 : l = r := Option.some.inj hkf
        subst e5
        simp only [inR] at hrf
        have hdv := Int.tdiv_eq_ediv_of_nonneg hl3 (b := 2)
        have hmv := Int.tmod_eq_emod_of_nonneg hl3 (b := 2)
        obtain ⟨b, hb⟩ : ∃ b, ins[(lit / 2).toNat]? = some b := ⟨_, List.getElem?_eq_getElem (by omega)⟩
        have hb2 : (ins.map fun x => [T.b x])[(lit / 2).toNat]? = some [T.b b] := by rw [List.getElem?_map, hb]; rfl
        have hv : litV ins lit = (b != decide (lit % 2 = 1)) := by rw [litV, List.getD_eq_getElem?_getD, hb]; rfl
        have hev : evalF ins (d + 1) (⟨2, lit, 0⟩ :: l) = litV ins lit := rfl
        rw [hev, hv]
        repeat' first | refine c_seq ?_ | refine c_block ?_ | refine c_reg' rfl fun K E hK hE => ?_ | refine c_draw' rfl (by kernel_rfl) fun K E hK hE => ?_ | ((first | refine r_opN fun κ η => ?_ | refine d_opN (by kernel_rfl) fun κ η => ?_); simp only [go_sem, Nat.reduceLT, Nat.reduceEqDiff, Nat.reduceAdd, Nat.reduceMul, Nat.reduceLeDiff, Nat.le_refl, reduceIte, reduceCtorEq, List.length_cons, List.length_map, hz, hc1, Int.reduceEq]; (repeat refine ⟨by omega, ?_⟩); refine η _ ?_; clear η κ) | (refine r_nil (hK _ ?_); clear hE hK E K) | refine q_seq ?_ | (refine d_nil (hK _ ?_); clear hE hK E K)
        refine c_cond _ rfl (fun hq => (by cases hq)) (fun hq => ?_)
        repeat' first | refine c_reg' rfl fun K E hK hE => ?_ | (refine r_opN fun κ η => ?_; simp only [go_sem, Nat.reduceLT, Nat.reduceEqDiff, Nat.reduceAdd, Nat.reduceMul, Nat.reduceLeDiff, Nat.le_refl, reduceIte, reduceCtorEq, Int.reduceEq]; refine η _ ?_; clear η κ) | (refine r_nil (hK _ ?_); clear hE hK E K) | refine q_seq ?_
        refine c_cond _ rfl (fun hq => (by cases hq)) (fun hq => ?_)
        repeat' first | refine c_seq ?_ | refine c_reg' rfl fun K E hK hE => ?_ | (refine r_opN fun κ η => ?_; simp only [go_sem, Nat.reduceLT, Nat.reduceEqDiff, Nat.reduceAdd, Nat.reduceMul, Nat.reduceLeDiff, Nat.le_refl, reduceIte, reduceCtorEq, Int.reduceEq]; refine η _ ?_; clear η κ) | (refine r_nil (hK _ ?_); clear hE hK E K) | refine q_seq ?_
        refine c_cond _ rfl (fun hq => ?_) (fun hq => (by cases hq))
        repeat' first | refine c_seq ?_ | refine c_draw' rfl (by kernel_rfl) fun K E hK hE => ?_ | (refine d_opN (by kernel_rfl) fun κ η => ?_; simp only [go_sem, Nat.reduceLT, Nat.reduceEqDiff, Nat.reduceAdd, Nat.reduceMul, Nat.reduceLeDiff, Nat.le_refl, reduceIte, reduceCtorEq, hdv, hmv, hb2]; (repeat refine ⟨by omega, ?_⟩); refine η _ ?_; clear η κ) | refine q_seq ?_ | (refine d_nil (hK _ ?_); clear hE hK E K) | refine c_ret ?_ | refine q_seqR ?_ | refine q_blkR ?_ | (refine q_ret ?_; refine q_r1 ?_; simp only [go_sem, Nat.reduceLT, Nat.reduceEqDiff, Nat.reduceAdd, Nat.reduceMul, Nat.reduceLeDiff, Nat.le_refl, reduceIte, reduceCtorEq, hdv, hmv, hb2])
      · obtain ⟨K, rfl⟩ : ∃ K : Nat, kids = K := ⟨kids.toNat, by omega⟩
        rw [Int.toNat_natCast] at hkf
        have hev : evalF ins (d + 1) (⟨k, lit, K⟩ :: l) = foldV (decide (k = 3)) (formF ins.length d) (evalF ins d) K l (decide (k = 3)) := by
          rcases hk34 with rfl | rfl <;> rfl
        rw [hev]
        rcases hk34 with rfl | rfl
        · rw [show decide ((3 : Int) = 3) = true from rfl]
          repeat' first | refine c_seq ?_ | refine c_block ?_ | refine c_reg' rfl fun K E hK hE => ?_ | refine c_draw' rfl (by kernel_rfl) fun K E hK hE => ?_ | ((first | refine r_opN fun κ η => ?_ | refine d_opN (by kernel_rfl) fun κ η => ?_); simp only [go_sem, Nat.reduceLT, Nat.reduceEqDiff, Nat.reduceAdd, Nat.reduceMul, Nat.reduceLeDiff, Nat.le_refl, reduceIte, reduceCtorEq, List.length_cons, List.length_map, hz, hc1, Int.reduceEq]; (repeat refine ⟨by omega, ?_⟩); refine η _ ?_; clear η κ) | (refine r_nil (hK _ ?_); clear hE hK E K) | refine q_seq ?_ | (refine d_nil (hK _ ?_); clear hE hK E K)
          refine c_cond _ rfl (fun hq => (by cases hq)) (fun hq => ?_)
          repeat' first | refine c_reg' rfl fun K E hK hE => ?_ | (refine r_opN fun κ η => ?_; simp only [go_sem, Nat.reduceLT, Nat.reduceEqDiff, Nat.reduceAdd, Nat.reduceMul, Nat.reduceLeDiff, Nat.le_refl, reduceIte, reduceCtorEq, Int.reduceEq]; refine η _ ?_; clear η κ) | (refine r_nil (hK _ ?_); clear hE hK E K) | refine q_seq ?_
          refine c_cond _ rfl (fun hq => (by cases hq)) (fun hq => ?_)
          repeat' first | refine c_seq ?_ | refine c_reg' rfl fun K E hK hE => ?_ | (refine r_opN fun κ η => ?_; simp only [go_sem, Nat.reduceLT, Nat.reduceEqDiff, Nat.reduceAdd, Nat.reduceMul, Nat.reduceLeDiff, Nat.le_refl, reduceIte, reduceCtorEq, Int.reduceEq]; refine η _ ?_; clear η κ) | (refine r_nil (hK _ ?_); clear hE hK E K) | refine q_seq ?_
          refine c_cond _ rfl (fun hq => (by cases hq)) (fun hq => ?_)
          repeat' first | refine c_seq ?_ | refine c_block ?_ | refine c_reg' rfl fun K E hK hE => ?_ | (refine r_opN fun κ η => ?_; simp only [go_sem, Nat.reduceLT, Nat.reduceEqDiff, Nat.reduceAdd, Nat.reduceMul, Nat.reduceLeDiff, Nat.le_refl, reduceIte, reduceCtorEq, Int.reduceEq]; (repeat refine ⟨by omega, ?_⟩); refine η _ ?_; clear η κ) | (refine r_nil (hK _ ?_); clear hE hK E K) | refine q_seq ?_ | refine q_blk ?_ | refine c_skip ?_
          refine c_loop (fun m s' => ∃ i : Nat, m = K - i ∧ i ≤ K ∧ ∃ l' v F G0, s' = nf 65 F G0 [(1, .t (bL ins)), (6, .ptr 6 1 0), (7, .t (fL l')), (8, .t (.b v)), (42, .t (.i .i64 K)), (43, .t (.i .i64 i))] [(6, ⟨1, .cells 52 [.t (.i .i64 3), .t (.i .i64 lit), .t (.i .i64 K)]⟩)] ∧ kidsF (formF ins.length d) (K - i) l' = some r ∧ foldV true (formF ins.length d) (evalF ins d) (K - i) l' v = foldV true (formF ins.length d) (evalF ins d) K l true ∧ i + l'.length ≤ l.length ∧ InF l') K ?_ ?_
          · exact ⟨0, by omega, by omega, l, _, _, _, nf_of rfl ⟨rfl, rfl, rfl, rfl, rfl, rfl, trivial⟩ ⟨rfl, trivial⟩, hkf, rfl, by omega, hr2⟩
          rintro m s' ⟨i, rfl, hi2, l', v, F, G0, rfl, hx, hv, hlen, hin⟩
          simp only [fL, bL]
          repeat' first | refine c_seq ?_ | refine c_reg' rfl fun K E hK hE => ?_ | (refine r_opN fun κ η => ?_; simp only [go_sem, Nat.reduceLT, Nat.reduceEqDiff, Nat.reduceAdd, Nat.reduceMul, Nat.reduceLeDiff, Nat.le_refl, reduceIte, reduceCtorEq]; refine η _ ?_; clear η κ) | (refine r_nil (hK _ ?_); clear hE hK E K) | refine q_seq ?_
          refine c_cond _ rfl (fun hq => ?_) (fun hq => ?_)
          · simp only [decide_eq_true_eq] at hq
            obtain ⟨q, hq2⟩ : ∃ q, K - i = q + 1 := ⟨K - (i + 1), by omega⟩
            rw [hq2] at hx hv
            obtain ⟨r2, e1, e2⟩ := Option.bind_eq_some_iff.1 hx
            have hl5 := formF_len _ _ _ _ e1
            obtain ⟨m2, hm2⟩ := formF_drop _ _ _ _ e1
            have hc := ih l' r2 (by omega) (by omega) hin e1
            simp only [fL, bL] at hc
            rw [foldV_step e1] at hv
            repeat' first | refine c_seq ?_ | refine c_block ?_ | refine c_reg' rfl fun K E hK hE => ?_ | (refine r_opN fun κ η => ?_; simp only [go_sem, Nat.reduceLT, Nat.reduceEqDiff, Nat.reduceAdd, Nat.reduceMul, Nat.reduceLeDiff, Nat.le_refl, reduceIte, reduceCtorEq]; refine η _ ?_; clear η κ) | (refine r_nil (hK _ ?_); clear hE hK E K) | refine q_seq ?_ | refine c_skip ?_
            refine r_opN fun κ η => ?_; simp only [go_sem, Nat.reduceLT, Nat.reduceEqDiff, Nat.reduceAdd, Nat.reduceMul, Nat.reduceLeDiff, Nat.le_refl, reduceIte, reduceCtorEq]; refine ⟨_, hc, ?_⟩; simp only [go_sem, Nat.reduceLT, Nat.reduceEqDiff, Nat.reduceAdd, Nat.reduceMul, Nat.reduceLeDiff, Nat.le_refl, reduceIte, reduceCtorEq]; refine η _ ?_; clear η κ
            repeat' first | refine c_seq ?_ | refine c_reg' rfl fun K E hK hE => ?_ | (refine r_opN fun κ η => ?_; simp only [go_sem, Nat.reduceLT, Nat.reduceEqDiff, Nat.reduceAdd, Nat.reduceMul, Nat.reduceLeDiff, Nat.le_refl, reduceIte, reduceCtorEq, Int.reduceEq]; (repeat refine ⟨by omega, ?_⟩); refine η _ ?_; clear η κ) | (refine r_nil (hK _ ?_); clear hE hK E K) | refine q_seq ?_
            refine c_cond _ rfl (fun hq => ?_) (fun hq => (by cases hq))
            have hin2 : InF r2 := fun f h => hin f (List.mem_of_mem_drop (hm2 ▸ h))
            cases v with
            | true =>
              repeat' first | refine c_reg' rfl fun K E hK hE => ?_ | ((first | refine r_opN fun κ η => ?_ | refine r_opG rfl fun κ η => ?_); simp only [go_sem, Nat.reduceLT, Nat.reduceEqDiff, Nat.reduceAdd, Nat.reduceMul, Nat.reduceLeDiff, Nat.le_refl, reduceIte, reduceCtorEq]; (repeat refine ⟨by omega, ?_⟩); refine η _ ?_; clear η κ) | (refine r_nil (hK _ ?_); clear hE hK E K) | refine q_seq ?_ | refine q_blk ?_ | refine q_lpN ?_
              exact ⟨K - (i + 1), by omega, i + 1, rfl, by omega, r2, _, _, _, nf_of rfl ⟨rfl, rfl, rfl, rfl, rfl, rfl, trivial⟩ ⟨rfl, trivial⟩, by rw [show K - (i + 1) = q by omega]; exact e2, by rw [show K - (i + 1) = q by omega, ← hv]; simp, by omega, hin2⟩
            | false =>
              repeat' first | refine c_reg' rfl fun K E hK hE => ?_ | ((first | refine r_opN fun κ η => ?_ | refine r_opG rfl fun κ η => ?_); simp only [go_sem, Nat.reduceLT, Nat.reduceEqDiff, Nat.reduceAdd, Nat.reduceMul, Nat.reduceLeDiff, Nat.le_refl, reduceIte, reduceCtorEq]; (repeat refine ⟨by omega, ?_⟩); refine η _ ?_; clear η κ) | (refine r_nil (hK _ ?_); clear hE hK E K) | refine q_seq ?_ | refine q_blk ?_ | refine q_lpN ?_
              exact ⟨K - (i + 1), by omega, i + 1, rfl, by omega, r2, _, _, _, nf_of rfl ⟨rfl, rfl, rfl, rfl, rfl, rfl, trivial⟩ ⟨rfl, trivial⟩, by rw [show K - (i + 1) = q by omega]; exact e2, by rw [show K - (i + 1) = q by omega, ← hv]; simp, by omega, hin2⟩
          · simp only [decide_eq_false_iff_not] at hq
            rw [show K - i = 0 by omega] at hx hv
            cases hx
            rw [← hv]
            repeat' first | refine c_seq ?_ | refine c_reg' rfl fun K E hK hE => ?_ | (refine r_opN fun κ η => ?_; simp only [go_sem, Nat.reduceLT, Nat.reduceEqDiff, Nat.reduceAdd, Nat.reduceMul, Nat.reduceLeDiff, Nat.le_refl, reduceIte, reduceCtorEq]; refine η _ ?_; clear η κ) | (refine r_nil (hK _ ?_); clear hE hK E K) | refine q_seq ?_ | refine c_exit ?_ | refine c_ret ?_ | refine q_seqE ?_ | refine q_blkHit ?_ | refine q_lpE ?_ | (refine q_ret ?_; refine q_r1 ?_; simp only [go_sem, Nat.reduceLT, Nat.reduceEqDiff, Nat.reduceAdd, Nat.reduceMul, Nat.reduceLeDiff, Nat.le_refl, reduceIte, reduceCtorEq])
            rfl
        · rw [show decide ((4 : Int) = 3) = false from rfl]
          repeat' first | refine c_seq ?_ | refine c_block ?_ | refine c_reg' rfl fun K E hK hE => ?_ | refine c_draw' rfl (by kernel_rfl) fun K E hK hE => ?_ | ((first | refine r_opN fun κ η => ?_ | refine d_opN (by kernel_rfl) fun κ η => ?_); simp only [go_sem, Nat.reduceLT, Nat.reduceEqDiff, Nat.reduceAdd, Nat.reduceMul, Nat.reduceLeDiff, Nat.le_refl, reduceIte, reduceCtorEq, List.length_cons, List.length_map, hz, hc1, Int.reduceEq]; (repeat refine ⟨by omega, ?_⟩); refine η _ ?_; clear η κ) | (refine r_nil (hK _ ?_); clear hE hK E K) | refine q_seq ?_ | (refine d_nil (hK _ ?_); clear hE hK E K)
          refine c_cond _ rfl (fun hq => (by cases hq)) (fun hq => ?_)
          repeat' first | refine c_reg' rfl fun K E hK hE => ?_ | (refine r_opN fun κ η => ?_; simp only [go_sem, Nat.reduceLT, Nat.reduceEqDiff, Nat.reduceAdd, Nat.reduceMul, Nat.reduceLeDiff, Nat.le_refl, reduceIte, reduceCtorEq, Int.reduceEq]; refine η _ ?_; clear η κ) | (refine r_nil (hK _ ?_); clear hE hK E K) | refine q_seq ?_
          refine c_cond _ rfl (fun hq => (by cases hq)) (fun hq => ?_)
          repeat' first | refine c_seq ?_ | refine c_reg' rfl fun K E hK hE => ?_ | (refine r_opN fun κ η => ?_; simp only [go_sem, Nat.reduceLT, Nat.reduceEqDiff, Nat.reduceAdd, Nat.reduceMul, Nat.reduceLeDiff, Nat.le_refl, reduceIte, reduceCtorEq, Int.reduceEq]; refine η _ ?_; clear η κ) | (refine r_nil (hK _ ?_); clear hE hK E K) | refine q_seq ?_
          refine c_cond _ rfl (fun hq => (by cases hq)) (fun hq => ?_)
          repeat' first | refine c_seq ?_ | refine c_block ?_ | refine c_reg' rfl fun K E hK hE => ?_ | (refine r_opN fun κ η => ?_; simp only [go_sem, Nat.reduceLT, Nat.reduceEqDiff, Nat.reduceAdd, Nat.reduceMul, Nat.reduceLeDiff, Nat.le_refl, reduceIte, reduceCtorEq, Int.reduceEq]; (repeat refine ⟨by omega, ?_⟩); refine η _ ?_; clear η κ) | (refine r_nil (hK _ ?_); clear hE hK E K) | refine q_seq ?_ | refine q_blk ?_ | refine c_skip ?_
          refine c_loop (fun m s' => ∃ i : Nat, m = K - i ∧ i ≤ K ∧ ∃ l' v F G0, s' = nf 65 F G0 [(1, .t (bL ins)), (6, .ptr 6 1 0), (7, .t (fL l')), (8, .t (.b v)), (42, .t (.i .i64 K)), (43, .t (.i .i64 i))] [(6, ⟨1, .cells 52 [.t (.i .i64 4), .t (.i .i64 lit), .t (.i .i64 K)]⟩)] ∧ kidsF (formF ins.length d) (K - i) l' = some r ∧ foldV false (formF ins.length d) (evalF ins d) (K - i) l' v = foldV false (formF ins.length d) (evalF ins d) K l false ∧ i + l'.length ≤ l.length ∧ InF l') K ?_ ?_
          · exact ⟨0, by omega, by omega, l, _, _, _, nf_of rfl ⟨rfl, rfl, rfl, rfl, rfl, rfl, trivial⟩ ⟨rfl, trivial⟩, hkf, rfl, by omega, hr2⟩
          rintro m s' ⟨i, rfl, hi2, l', v, F, G0, rfl, hx, hv, hlen, hin⟩
          simp only [fL, bL]
          repeat' first | refine c_seq ?_ | refine c_reg' rfl fun K E hK hE => ?_ | (refine r_opN fun κ η => ?_; simp only [go_sem, Nat.reduceLT, Nat.reduceEqDiff, Nat.reduceAdd, Nat.reduceMul, Nat.reduceLeDiff, Nat.le_refl, reduceIte, reduceCtorEq]; refine η _ ?_; clear η κ) | (refine r_nil (hK _ ?_); clear hE hK E K) | refine q_seq ?_
          refine c_cond _ rfl (fun hq => ?_) (fun hq => ?_)
          · simp only [decide_eq_true_eq] at hq
            obtain ⟨q, hq2⟩ : ∃ q, K - i = q + 1 := ⟨K - (i + 1), by omega⟩
            rw [hq2] at hx hv
            obtain ⟨r2, e1, e2⟩ := Option.bind_eq_some_iff.1 hx
            have hl5 := formF_len _ _ _ _ e1
            obtain ⟨m2, hm2⟩ := formF_drop _ _ _ _ e1
            have hc := ih l' r2 (by omega) (by omega) hin e1
            simp only [fL, bL] at hc
            rw [foldV_step e1] at hv
            repeat' first | refine c_seq ?_ | refine c_block ?_ | refine c_reg' rfl fun K E hK hE => ?_ | (refine r_opN fun κ η => ?_; simp only [go_sem, Nat.reduceLT, Nat.reduceEqDiff, Nat.reduceAdd, Nat.reduceMul, Nat.reduceLeDiff, Nat.le_refl, reduceIte, reduceCtorEq]; refine η _ ?_; clear η κ) | (refine r_nil (hK _ ?_); clear hE hK E K) | refine q_seq ?_ | refine c_skip ?_
            refine r_opN fun κ η => ?_; simp only [go_sem, Nat.reduceLT, Nat.reduceEqDiff, Nat.reduceAdd, Nat.reduceMul, Nat.reduceLeDiff, Nat.le_refl, reduceIte, reduceCtorEq]; refine ⟨_, hc, ?_⟩; simp only [go_sem, Nat.reduceLT, Nat.reduceEqDiff, Nat.reduceAdd, Nat.reduceMul, Nat.reduceLeDiff, Nat.le_refl, reduceIte, reduceCtorEq]; refine η _ ?_; clear η κ
            repeat' first | refine c_seq ?_ | refine c_reg' rfl fun K E hK hE => ?_ | (refine r_opN fun κ η => ?_; simp only [go_sem, Nat.reduceLT, Nat.reduceEqDiff, Nat.reduceAdd, Nat.reduceMul, Nat.reduceLeDiff, Nat.le_refl, reduceIte, reduceCtorEq, Int.reduceEq]; (repeat refine ⟨by omega, ?_⟩); refine η _ ?_; clear η κ) | (refine r_nil (hK _ ?_); clear hE hK E K) | refine q_seq ?_
            refine c_cond _ rfl (fun hq => (by cases hq)) (fun hq => ?_)
            have hin2 : InF r2 := fun f h => hin f (List.mem_of_mem_drop (hm2 ▸ h))
            cases v with
            | true =>
              repeat' first | refine c_reg' rfl fun K E hK hE => ?_ | ((first | refine r_opN fun κ η => ?_ | refine r_opG rfl fun κ η => ?_); simp only [go_sem, Nat.reduceLT, Nat.reduceEqDiff, Nat.reduceAdd, Nat.reduceMul, Nat.reduceLeDiff, Nat.le_refl, reduceIte, reduceCtorEq]; (repeat refine ⟨by omega, ?_⟩); refine η _ ?_; clear η κ) | (refine r_nil (hK _ ?_); clear hE hK E K) | refine q_seq ?_ | refine q_blk ?_ | refine q_lpN ?_
              exact ⟨K - (i + 1), by omega, i + 1, rfl, by omega, r2, _, _, _, nf_of rfl ⟨rfl, rfl, rfl, rfl, rfl, rfl, trivial⟩ ⟨rfl, trivial⟩, by rw [show K - (i + 1) = q by omega]; exact e2, by rw [show K - (i + 1) = q by omega, ← hv]; simp, by omega, hin2⟩
            | false =>
              repeat' first | refine c_reg' rfl fun K E hK hE => ?_ | ((first | refine r_opN fun κ η => ?_ | refine r_opG rfl fun κ η => ?_); simp only [go_sem, Nat.reduceLT, Nat.reduceEqDiff, Nat.reduceAdd, Nat.reduceMul, Nat.reduceLeDiff, Nat.le_refl, reduceIte, reduceCtorEq]; (repeat refine ⟨by omega, ?_⟩); refine η _ ?_; clear η κ) | (refine r_nil (hK _ ?_); clear hE hK E K) | refine q_seq ?_ | refine q_blk ?_ | refine q_lpN ?_
              exact ⟨K - (i + 1), by omega, i + 1, rfl, by omega, r2, _, _, _, nf_of rfl ⟨rfl, rfl, rfl, rfl, rfl, rfl, trivial⟩ ⟨rfl, trivial⟩, by rw [show K - (i + 1) = q by omega]; exact e2, by rw [show K - (i + 1) = q by omega, ← hv]; simp, by omega, hin2⟩
          · simp only [decide_eq_false_iff_not] at hq
            rw [show K - i = 0 by omega] at hx hv
            cases hx
            rw [← hv]
            repeat' first | refine c_seq ?_ | refine c_reg' rfl fun K E hK hE => ?_ | (refine r_opN fun κ η => ?_; simp only [go_sem, Nat.reduceLT, Nat.reduceEqDiff, Nat.reduceAdd, Nat.reduceMul, Nat.reduceLeDiff, Nat.le_refl, reduceIte, reduceCtorEq]; refine η _ ?_; clear η κ) | (refine r_nil (hK _ ?_); clear hE hK E K) | refine q_seq ?_ | refine c_exit ?_ | refine c_ret ?_ | refine q_seqE ?_ | refine q_blkHit ?_ | refine q_lpE ?_ | (refine q_ret ?_; refine q_r1 ?_; simp only [go_sem, Nat.reduceLT, Nat.reduceEqDiff, Nat.reduceAdd, Nat.reduceMul, Nat.reduceLeDiff, Nat.le_refl, reduceIte, reduceCtorEq])
            rfl
end Go.Proofs.YtfflfmpkjcomgaaDoor
