import Derived.Test.YtfflfmpkjcomgaaDoorK4
namespace Go.Proofs.YtfflfmpkjcomgaaDoor
open Go.RowKit
set_option maxRecDepth 100000
set_option linter.unusedSimpArgs false
variable (Hy : World → Prop)
attribute [local irreducible] runM runD cwp seqQ blkQ lpQ retQ asQ bdQ bdY retP endR preD retD
theorem kidsF_drop {step : List Fm → Option (List Fm)} (h : ∀ l r, step l = some r → ∃ m, r = l.drop m) : ∀ k l r, kidsF step k l = some r → ∃ m, r = l.drop m
  | 0, l, r, e => by cases e; exact ⟨0, rfl⟩
  | k + 1, l, r, e => by
    obtain ⟨m, h1, h2⟩ := Option.bind_eq_some_iff.1 e
    obtain ⟨a, rfl⟩ := h _ _ h1
    obtain ⟨b, rfl⟩ := kidsF_drop h k _ r h2
    exact ⟨a + b, by rw [List.drop_drop]⟩
theorem formF_drop (n : Int) : ∀ d l r, formF n d l = some r → ∃ m, r = l.drop m
  | 0, _, _, e => by cases e
  | _ + 1, [], _, e => by cases e
  | d + 1, f :: l, r, e => by
    unfold formF at e
    split at e
    · obtain ⟨m, rfl⟩ := kidsF_drop (formF_drop n d) _ _ _ e
      exact ⟨m + 1, rfl⟩
    · cases e
theorem drop_of_len {l : List Fm} {m : Nat} : l.drop (l.length - (l.drop m).length) = l.drop m := by
  rw [List.length_drop]
  by_cases h : m ≤ l.length
  · rw [show l.length - (l.length - m) = m by omega]
  · rw [List.drop_eq_nil_of_le (by omega), List.drop_eq_nil_of_le (by omega)]
/-- where a form ends -/
def endV (l : List Fm) : Option (List Fm) → Int
  | some r => ((l.length - r.length : Nat) : Int)
  | none => -1
set_option maxHeartbeats 4000000 in
theorem end_ct (n : Int) (hn : 0 ≤ n ∧ n ≤ 4000) (l : List Fm) (hl : l.length ≤ 1000000) : ∀ (d a : Nat), a ≤ l.length → l.length - a ≤ d → Ct Tryd.prog Hy 32 [fL l, .i .i64 a, .i .i64 n] [.i .i64 (endV l (formF n d (l.drop a)))] := by
  intro d
  induction d with
  | zero =>
    intro a ha hd
    have hna : ((a : Int) < 0) = False := eq_false (by omega)
    have hg : (l.length : Int) ≤ a := by omega
    refine ct_of (cls := _root_.id) tt_ok follows_ Tryd.func32 rfl (by decide) (Nat.le_of_ble_eq_true rfl) ?_
    rw [show Tryd.f32.ntmps = 46 from rfl, s0_nf]
    simp only [List.zipIdx_cons, List.zipIdx_nil, List.map_cons, List.map_nil, Nat.reduceAdd, fL]
    repeat' first | refine c_seq ?_ | refine c_reg' rfl fun K E hK hE => ?_ | ((first | refine r_opN fun κ η => ?_ | refine r_opG rfl fun κ η => ?_); simp only [go_sem, Nat.reduceLT, Nat.reduceEqDiff, Nat.reduceAdd, Nat.reduceMul, Nat.reduceLeDiff, Nat.le_refl, reduceIte, reduceCtorEq, hna, hg]; refine η _ ?_; clear η κ) | (refine r_nil (hK _ ?_); clear hE hK E K) | refine q_seq ?_
    refine c_cond _ rfl (fun hq => ?_) (fun hq => (by cases hq))
    repeat' first | refine c_seq ?_ | refine c_reg' rfl fun K E hK hE => ?_ | (refine r_opN fun κ η => ?_; simp only [go_sem, Nat.reduceLT, Nat.reduceEqDiff, Nat.reduceAdd, Nat.reduceMul, Nat.reduceLeDiff, Nat.le_refl, reduceIte, reduceCtorEq]; refine η _ ?_; clear η κ) | (refine r_nil (hK _ ?_); clear hE hK E K) | refine q_seq ?_ | refine c_ret ?_ | refine q_seqR ?_ | (refine q_ret ?_; refine q_r1 ?_; simp only [go_sem, Nat.reduceLT, Nat.reduceEqDiff, Nat.reduceAdd, Nat.reduceMul, Nat.reduceLeDiff, Nat.le_refl, reduceIte, reduceCtorEq])
    rfl
  | succ d ih =>
    intro a ha hd
    have hna : ((a : Int) < 0) = False := eq_false (by omega)
    by_cases hg : (l.length : Int) ≤ a
    · have : l.drop a = [] := List.drop_eq_nil_of_le (by omega)
      rw [this, formF_nil]
      refine ct_of (cls := _root_.id) tt_ok follows_ Tryd.func32 rfl (by decide) (Nat.le_of_ble_eq_true rfl) ?_
      rw [show Tryd.f32.ntmps = 46 from rfl, s0_nf]
      simp only [List.zipIdx_cons, List.zipIdx_nil, List.map_cons, List.map_nil, Nat.reduceAdd, fL]
      repeat' first | refine c_seq ?_ | refine c_reg' rfl fun K E hK hE => ?_ | ((first | refine r_opN fun κ η => ?_ | refine r_opG rfl fun κ η => ?_); simp only [go_sem, Nat.reduceLT, Nat.reduceEqDiff, Nat.reduceAdd, Nat.reduceMul, Nat.reduceLeDiff, Nat.le_refl, reduceIte, reduceCtorEq, hna, hg]; refine η _ ?_; clear η κ) | (refine r_nil (hK _ ?_); clear hE hK E K) | refine q_seq ?_
      refine c_cond _ rfl (fun hq => ?_) (fun hq => (by cases hq))
      repeat' first | refine c_seq ?_ | refine c_reg' rfl fun K E hK hE => ?_ | (refine r_opN fun κ η => ?_; simp only [go_sem, Nat.reduceLT, Nat.reduceEqDiff, Nat.reduceAdd, Nat.reduceMul, Nat.reduceLeDiff, Nat.le_refl, reduceIte, reduceCtorEq]; refine η _ ?_; clear η κ) | (refine r_nil (hK _ ?_); clear hE hK E K) | refine q_seq ?_ | refine c_ret ?_ | refine q_seqR ?_ | (refine q_ret ?_; refine q_r1 ?_; simp only [go_sem, Nat.reduceLT, Nat.reduceEqDiff, Nat.reduceAdd, Nat.reduceMul, Nat.reduceLeDiff, Nat.le_refl, reduceIte, reduceCtorEq])
      rfl
    obtain ⟨f, hf⟩ : ∃ f, l[a]? = some f := ⟨_, List.getElem?_eq_getElem (by omega)⟩
    have hda : l.drop a = f :: l.drop (a + 1) := by
      obtain ⟨h1, h2⟩ := List.getElem?_eq_some_iff.1 hf
      rw [← h2]
      exact List.drop_eq_getElem_cons h1
    have hun : formF n (d + 1) (l.drop a) = if plainB n f = true then kidsF (formF n d) f.kids.toNat (l.drop (a + 1)) else none := by rw [hda]; rfl
    have hp := plain_ct Hy f n hn
    simp only [fE] at hp
    cases hb : plainB n f with
    | false =>
      rw [hb, if_neg (by decide)] at hun
      rw [hun]
      rw [hb] at hp
      refine ct_of (cls := _root_.id) tt_ok follows_ Tryd.func32 rfl (by decide) (Nat.le_of_ble_eq_true rfl) ?_
      rw [show Tryd.f32.ntmps = 46 from rfl, s0_nf]
      simp only [List.zipIdx_cons, List.zipIdx_nil, List.map_cons, List.map_nil, Nat.reduceAdd, fL]
      repeat' first | refine c_seq ?_ | refine c_reg' rfl fun K E hK hE => ?_ | ((first | refine r_opN fun κ η => ?_ | refine r_opG rfl fun κ η => ?_); simp only [go_sem, Nat.reduceLT, Nat.reduceEqDiff, Nat.reduceAdd, Nat.reduceMul, Nat.reduceLeDiff, Nat.le_refl, reduceIte, reduceCtorEq, hna, hg, hf]; (repeat refine ⟨by omega, ?_⟩); refine η _ ?_; clear η κ) | (refine r_nil (hK _ ?_); clear hE hK E K) | refine q_seq ?_
      refine r_opG rfl fun κ η => ?_; simp only [go_sem, Nat.reduceLT, Nat.reduceEqDiff, Nat.reduceAdd, Nat.reduceMul, Nat.reduceLeDiff, Nat.le_refl, reduceIte, reduceCtorEq]; refine ⟨_, hp, ?_⟩; simp only [go_sem, Nat.reduceLT, Nat.reduceEqDiff, Nat.reduceAdd, Nat.reduceMul, Nat.reduceLeDiff, Nat.le_refl, reduceIte, reduceCtorEq]; refine η _ ?_; clear η κ
      repeat' first | ((first | refine r_opN fun κ η => ?_ | refine r_opG rfl fun κ η => ?_); simp only [go_sem, Nat.reduceLT, Nat.reduceEqDiff, Nat.reduceAdd, Nat.reduceMul, Nat.reduceLeDiff, Nat.le_refl, reduceIte, reduceCtorEq]; refine η _ ?_; clear η κ) | (refine r_nil (hK _ ?_); clear hE hK E K) | refine q_seq ?_
      refine c_cond _ rfl (fun hq => ?_) (fun hq => (by cases hq))
      repeat' first | refine c_seq ?_ | refine c_reg' rfl fun K E hK hE => ?_ | (refine r_opN fun κ η => ?_; simp only [go_sem, Nat.reduceLT, Nat.reduceEqDiff, Nat.reduceAdd, Nat.reduceMul, Nat.reduceLeDiff, Nat.le_refl, reduceIte, reduceCtorEq]; refine η _ ?_; clear η κ) | (refine r_nil (hK _ ?_); clear hE hK E K) | refine q_seq ?_ | refine c_ret ?_ | refine q_seqR ?_ | (refine q_ret ?_; refine q_r1 ?_; simp only [go_sem, Nat.reduceLT, Nat.reduceEqDiff, Nat.reduceAdd, Nat.reduceMul, Nat.reduceLeDiff, Nat.le_refl, reduceIte, reduceCtorEq])
      rfl
    | true =>
      rw [hb, if_pos rfl] at hun
      rw [hun]
      rw [hb] at hp
      have hk := plainB_kids hb
      obtain ⟨K, hK0⟩ : ∃ K : Nat, f.kids = K := ⟨f.kids.toNat, by omega⟩
      rw [hK0, Int.toNat_natCast]
      refine ct_of (cls := _root_.id) tt_ok follows_ Tryd.func32 rfl (by decide) (Nat.le_of_ble_eq_true rfl) ?_
      rw [show Tryd.f32.ntmps = 46 from rfl, s0_nf]
      simp only [List.zipIdx_cons, List.zipIdx_nil, List.map_cons, List.map_nil, Nat.reduceAdd, fL]
      repeat' first | refine c_seq ?_ | refine c_reg' rfl fun K E hK hE => ?_ | ((first | refine r_opN fun κ η => ?_ | refine r_opG rfl fun κ η => ?_); simp only [go_sem, Nat.reduceLT, Nat.reduceEqDiff, Nat.reduceAdd, Nat.reduceMul, Nat.reduceLeDiff, Nat.le_refl, reduceIte, reduceCtorEq, hna, hg, hf]; (repeat refine ⟨by omega, ?_⟩); refine η _ ?_; clear η κ) | (refine r_nil (hK _ ?_); clear hE hK E K) | refine q_seq ?_
      refine r_opG rfl fun κ η => ?_; simp only [go_sem, Nat.reduceLT, Nat.reduceEqDiff, Nat.reduceAdd, Nat.reduceMul, Nat.reduceLeDiff, Nat.le_refl, reduceIte, reduceCtorEq]; refine ⟨_, hp, ?_⟩; simp only [go_sem, Nat.reduceLT, Nat.reduceEqDiff, Nat.reduceAdd, Nat.reduceMul, Nat.reduceLeDiff, Nat.le_refl, reduceIte, reduceCtorEq]; refine η _ ?_; clear η κ
      repeat' first | ((first | refine r_opN fun κ η => ?_ | refine r_opG rfl fun κ η => ?_); simp only [go_sem, Nat.reduceLT, Nat.reduceEqDiff, Nat.reduceAdd, Nat.reduceMul, Nat.reduceLeDiff, Nat.le_refl, reduceIte, reduceCtorEq]; refine η _ ?_; clear η κ) | (refine r_nil (hK _ ?_); clear hE hK E K) | refine q_seq ?_
      refine c_cond _ rfl (fun hq => (by cases hq)) (fun hq => ?_)
      repeat' first | refine c_seq ?_ | refine c_block ?_ | refine c_reg' rfl fun K E hK hE => ?_ | (refine r_opN fun κ η => ?_; simp only [go_sem, Nat.reduceLT, Nat.reduceEqDiff, Nat.reduceAdd, Nat.reduceMul, Nat.reduceLeDiff, Nat.le_refl, reduceIte, reduceCtorEq]; (repeat refine ⟨by omega, ?_⟩); refine η _ ?_; clear η κ) | (refine r_nil (hK _ ?_); clear hE hK E K) | refine q_seq ?_ | refine c_skip ?_
      refine c_loop (fun m s' => ∃ k : Nat, m = K - k ∧ k ≤ K ∧ ∃ F G0 t, s' = nf 46 F G0 [(0, .t (fL l)), (1, .t (.i .i64 a)), (2, .t (.i .i64 n)), (7, .t (.i .i64 t)), (8, .t (.i .i64 k))] [] ∧ ((t = -1 ∧ kidsF (formF n d) K (l.drop (a + 1)) = none) ∨ ∃ b : Nat, t = b ∧ b ≤ l.length ∧ a + 1 + k ≤ b ∧ kidsF (formF n d) (K - k) (l.drop b) = kidsF (formF n d) K (l.drop (a + 1)))) K ?_ ?_
      · exact ⟨0, by omega, by omega, _, _, _, nf_of rfl ⟨rfl, rfl, rfl, rfl, rfl, trivial⟩ trivial, .inr ⟨a + 1, by omega, by omega, by omega, rfl⟩⟩
      rintro m s' ⟨k, rfl, hk2, F, G0, t, rfl, hx⟩
      simp only [fL]
      have hkk : ((k : Int) < f.kids) = ((k : Int) < K) := by rw [hK0]
      by_cases c1 : (k : Int) < K
      · rcases hx with ⟨rfl, hx⟩ | ⟨b, rfl, hb1, hb2, hx⟩
        · rw [hx]
          repeat' first | refine c_seq ?_ | refine c_reg' rfl fun K E hK hE => ?_ | ((first | refine r_opN fun κ η => ?_ | refine r_opG rfl fun κ η => ?_); simp only [go_sem, Nat.reduceLT, Nat.reduceEqDiff, Nat.reduceAdd, Nat.reduceMul, Nat.reduceLeDiff, Nat.le_refl, reduceIte, reduceCtorEq, hf, hkk, c1, Int.reduceLE, Int.reduceNeg]; (repeat refine ⟨by omega, ?_⟩); refine η _ ?_; clear η κ) | (refine r_nil (hK _ ?_); clear hE hK E K) | refine q_seq ?_
          refine c_cond _ rfl (fun hq => (by cases hq)) (fun hq => ?_)
          repeat' first | refine c_seq ?_ | refine c_reg' rfl fun K E hK hE => ?_ | (refine r_opN fun κ η => ?_; simp only [go_sem, Nat.reduceLT, Nat.reduceEqDiff, Nat.reduceAdd, Nat.reduceMul, Nat.reduceLeDiff, Nat.le_refl, reduceIte, reduceCtorEq]; refine η _ ?_; clear η κ) | (refine r_nil (hK _ ?_); clear hE hK E K) | refine q_seq ?_ | refine c_exit ?_ | refine c_ret ?_ | refine q_seqE ?_ | refine q_blkHit ?_ | refine q_lpE ?_ | (refine q_ret ?_; refine q_r1 ?_; simp only [go_sem, Nat.reduceLT, Nat.reduceEqDiff, Nat.reduceAdd, Nat.reduceMul, Nat.reduceLeDiff, Nat.le_refl, reduceIte, reduceCtorEq])
          rfl
        · have h0 : (0 : Int) ≤ b := by omega
          obtain ⟨q, hq2⟩ : ∃ q, K - k = q + 1 := ⟨K - (k + 1), by omega⟩
          have hkq : kidsF (formF n d) (q + 1) (l.drop b) = (formF n d (l.drop b)).bind (kidsF (formF n d) q) := rfl
          rw [hq2, hkq] at hx
          have hc := ih b hb1 (by omega)
          simp only [fL] at hc
          repeat' first | refine c_seq ?_ | refine c_reg' rfl fun K E hK hE => ?_ | ((first | refine r_opN fun κ η => ?_ | refine r_opG rfl fun κ η => ?_); simp only [go_sem, Nat.reduceLT, Nat.reduceEqDiff, Nat.reduceAdd, Nat.reduceMul, Nat.reduceLeDiff, Nat.le_refl, reduceIte, reduceCtorEq, hf, hkk, c1, h0]; (repeat refine ⟨by omega, ?_⟩); refine η _ ?_; clear η κ) | (refine r_nil (hK _ ?_); clear hE hK E K) | refine q_seq ?_
          refine c_cond _ rfl (fun hq => ?_) (fun hq => (by cases hq))
          repeat' first | refine c_seq ?_ | refine c_block ?_ | refine c_reg' rfl fun K E hK hE => ?_ | (refine r_opN fun κ η => ?_; simp only [go_sem, Nat.reduceLT, Nat.reduceEqDiff, Nat.reduceAdd, Nat.reduceMul, Nat.reduceLeDiff, Nat.le_refl, reduceIte, reduceCtorEq]; refine η _ ?_; clear η κ) | refine q_seq ?_ | refine c_skip ?_
          refine r_opN fun κ η => ?_; simp only [go_sem, Nat.reduceLT, Nat.reduceEqDiff, Nat.reduceAdd, Nat.reduceMul, Nat.reduceLeDiff, Nat.le_refl, reduceIte, reduceCtorEq]; refine ⟨_, hc, ?_⟩; simp only [go_sem, Nat.reduceLT, Nat.reduceEqDiff, Nat.reduceAdd, Nat.reduceMul, Nat.reduceLeDiff, Nat.le_refl, reduceIte, reduceCtorEq]; refine η _ ?_; clear η κ
          repeat' first | refine c_reg' rfl fun K E hK hE => ?_ | (refine r_opN fun κ η => ?_; simp only [go_sem, Nat.reduceLT, Nat.reduceEqDiff, Nat.reduceAdd, Nat.reduceMul, Nat.reduceLeDiff, Nat.le_refl, reduceIte, reduceCtorEq]; (repeat refine ⟨by omega, ?_⟩); refine η _ ?_; clear η κ) | (refine r_nil (hK _ ?_); clear hE hK E K) | refine q_seq ?_ | refine q_blk ?_ | refine q_lpN ?_
          refine ⟨K - (k + 1), by omega, k + 1, rfl, by omega, _, _, _, nf_of rfl ⟨rfl, rfl, rfl, rfl, rfl, trivial⟩ trivial, ?_⟩
          cases hr : formF n d (l.drop b) with
          | none =>
            rw [hr, Option.bind_none] at hx
            exact .inl ⟨rfl, hx.symm⟩
          | some r =>
            have hlen := formF_len _ _ _ _ hr
            obtain ⟨m2, hm2⟩ := formF_drop _ _ _ _ hr
            rw [hr, Option.bind_some] at hx
            rw [List.length_drop] at hlen
            refine .inr ⟨l.length - r.length, rfl, by omega, by omega, ?_⟩
            rw [show K - (k + 1) = q by omega, ← hx, hm2, List.drop_drop, drop_of_len]
      · rcases hx with ⟨rfl, hx⟩ | ⟨b, rfl, hb1, hb2, hx⟩
        · rw [hx]
          repeat' first | refine c_seq ?_ | refine c_reg' rfl fun K E hK hE => ?_ | ((first | refine r_opN fun κ η => ?_ | refine r_opG rfl fun κ η => ?_); simp only [go_sem, Nat.reduceLT, Nat.reduceEqDiff, Nat.reduceAdd, Nat.reduceMul, Nat.reduceLeDiff, Nat.le_refl, reduceIte, reduceCtorEq, hf, hkk, c1]; (repeat refine ⟨by omega, ?_⟩); refine η _ ?_; clear η κ) | (refine r_nil (hK _ ?_); clear hE hK E K) | refine q_seq ?_
          refine c_cond _ rfl (fun hq => (by cases hq)) (fun hq => ?_)
          repeat' first | refine c_seq ?_ | refine c_reg' rfl fun K E hK hE => ?_ | (refine r_opN fun κ η => ?_; simp only [go_sem, Nat.reduceLT, Nat.reduceEqDiff, Nat.reduceAdd, Nat.reduceMul, Nat.reduceLeDiff, Nat.le_refl, reduceIte, reduceCtorEq]; refine η _ ?_; clear η κ) | (refine r_nil (hK _ ?_); clear hE hK E K) | refine q_seq ?_ | refine c_exit ?_ | refine c_ret ?_ | refine q_seqE ?_ | refine q_blkHit ?_ | refine q_lpE ?_ | (refine q_ret ?_; refine q_r1 ?_; simp only [go_sem, Nat.reduceLT, Nat.reduceEqDiff, Nat.reduceAdd, Nat.reduceMul, Nat.reduceLeDiff, Nat.le_refl, reduceIte, reduceCtorEq])
          rfl
        · rw [show K - k = 0 by omega] at hx
          rw [← hx]
          have hv : endV l (kidsF (formF n d) 0 (l.drop b)) = b := by
            show ((l.length - (l.drop b).length : Nat) : Int) = b
            rw [List.length_drop]
            omega
          rw [hv]
          repeat' first | refine c_seq ?_ | refine c_reg' rfl fun K E hK hE => ?_ | ((first | refine r_opN fun κ η => ?_ | refine r_opG rfl fun κ η => ?_); simp only [go_sem, Nat.reduceLT, Nat.reduceEqDiff, Nat.reduceAdd, Nat.reduceMul, Nat.reduceLeDiff, Nat.le_refl, reduceIte, reduceCtorEq, hf, hkk, c1]; (repeat refine ⟨by omega, ?_⟩); refine η _ ?_; clear η κ) | (refine r_nil (hK _ ?_); clear hE hK E K) | refine q_seq ?_
          refine c_cond _ rfl (fun hq => (by cases hq)) (fun hq => ?_)
          repeat' first | refine c_seq ?_ | refine c_reg' rfl fun K E hK hE => ?_ | (refine r_opN fun κ η => ?_; simp only [go_sem, Nat.reduceLT, Nat.reduceEqDiff, Nat.reduceAdd, Nat.reduceMul, Nat.reduceLeDiff, Nat.le_refl, reduceIte, reduceCtorEq]; refine η _ ?_; clear η κ) | (refine r_nil (hK _ ?_); clear hE hK E K) | refine q_seq ?_ | refine c_exit ?_ | refine c_ret ?_ | refine q_seqE ?_ | refine q_blkHit ?_ | refine q_lpE ?_ | (refine q_ret ?_; refine q_r1 ?_; simp only [go_sem, Nat.reduceLT, Nat.reduceEqDiff, Nat.reduceAdd, Nat.reduceMul, Nat.reduceLeDiff, Nat.le_refl, reduceIte, reduceCtorEq])
set_option maxHeartbeats 1000000 in
theorem rcheck_ct (l : List Fm) (n : Int) (hl : l.length ≤ 1000000) : Ct Tryd.prog Hy 16 [fL l, .i .i64 n] [.b (isF n l)] := by
  by_cases c1 : (l.length : Int) ≤ 4000
  · by_cases c2 : 0 ≤ n
    · by_cases c3 : n ≤ 4000
      · have he := end_ct Hy n ⟨c2, c3⟩ l hl l.length 0 (by omega) (by omega)
        rw [List.drop_zero] at he
        simp only [fL, Int.ofNat_zero, Int.natCast_zero] at he
        have hi : decide (endV l (formF n l.length l) = l.length) = isF n l := by
          rw [isF, decide_eq_decide]
          cases hr : formF n l.length l with
          | none =>
            simp only [endV]
            constructor
            · intro h; omega
            · intro h; cases h.2.2.2
          | some r =>
            have hlen := formF_len _ _ _ _ hr
            simp only [endV]
            constructor
            · intro h
              refine ⟨by omega, c2, c3, ?_⟩
              rw [List.length_eq_zero_iff.1 (show r.length = 0 by omega)]
            · intro h
              have := h.2.2.2
              cases this
              simp
        refine ct_of (cls := _root_.id) tt_ok follows_ Tryd.func16 rfl (by decide) (Nat.le_of_ble_eq_true rfl) ?_
        rw [show Tryd.f16.ntmps = 24 from rfl, s0_nf]
        simp only [List.zipIdx_cons, List.zipIdx_nil, List.map_cons, List.map_nil, Nat.reduceAdd, fL]
        repeat' first | refine c_seq ?_ | refine c_reg' rfl fun K E hK hE => ?_ | ((first | refine r_opN fun κ η => ?_ | refine r_opG rfl fun κ η => ?_); simp only [go_sem, Nat.reduceLT, Nat.reduceEqDiff, Nat.reduceAdd, Nat.reduceMul, Nat.reduceLeDiff, Nat.le_refl, reduceIte, reduceCtorEq, c1, c2, c3]; refine η _ ?_; clear η κ) | (refine r_nil (hK _ ?_); clear hE hK E K) | refine q_seq ?_
        refine r_opG rfl fun κ η => ?_; simp only [go_sem, Nat.reduceLT, Nat.reduceEqDiff, Nat.reduceAdd, Nat.reduceMul, Nat.reduceLeDiff, Nat.le_refl, reduceIte, reduceCtorEq]; refine ⟨_, he, ?_⟩; simp only [go_sem, Nat.reduceLT, Nat.reduceEqDiff, Nat.reduceAdd, Nat.reduceMul, Nat.reduceLeDiff, Nat.le_refl, reduceIte, reduceCtorEq]; refine η _ ?_; clear η κ
        repeat' first | ((first | refine r_opN fun κ η => ?_ | refine r_opG rfl fun κ η => ?_); simp only [go_sem, Nat.reduceLT, Nat.reduceEqDiff, Nat.reduceAdd, Nat.reduceMul, Nat.reduceLeDiff, Nat.le_refl, reduceIte, reduceCtorEq, hi]; refine η _ ?_; clear η κ) | (refine r_nil (hK _ ?_); clear hE hK E K) | refine q_seq ?_ | refine c_ret ?_ | (refine q_ret ?_; refine q_r1 ?_; simp only [go_sem, Nat.reduceLT, Nat.reduceEqDiff, Nat.reduceAdd, Nat.reduceMul, Nat.reduceLeDiff, Nat.le_refl, reduceIte, reduceCtorEq, hi])
      · have hb : isF n l = false := decide_eq_false (fun h => by omega)
        refine ct_of (cls := _root_.id) tt_ok follows_ Tryd.func16 rfl (by decide) (Nat.le_of_ble_eq_true rfl) ?_
        rw [show Tryd.f16.ntmps = 24 from rfl, s0_nf]
        simp only [List.zipIdx_cons, List.zipIdx_nil, List.map_cons, List.map_nil, Nat.reduceAdd, fL]
        repeat' first | refine c_seq ?_ | refine c_reg' rfl fun K E hK hE => ?_ | ((first | refine r_opN fun κ η => ?_ | refine r_opG rfl fun κ η => ?_); simp only [go_sem, Nat.reduceLT, Nat.reduceEqDiff, Nat.reduceAdd, Nat.reduceMul, Nat.reduceLeDiff, Nat.le_refl, reduceIte, reduceCtorEq, c1, c2, c3]; refine η _ ?_; clear η κ) | (refine r_nil (hK _ ?_); clear hE hK E K) | refine q_seq ?_ | refine c_ret ?_ | (refine q_ret ?_; refine q_r1 ?_; simp only [go_sem, Nat.reduceLT, Nat.reduceEqDiff, Nat.reduceAdd, Nat.reduceMul, Nat.reduceLeDiff, Nat.le_refl, reduceIte, reduceCtorEq, c1, c2, c3])
        rw [hb]
    · have hb : isF n l = false := decide_eq_false (fun h => by omega)
      refine ct_of (cls := _root_.id) tt_ok follows_ Tryd.func16 rfl (by decide) (Nat.le_of_ble_eq_true rfl) ?_
      rw [show Tryd.f16.ntmps = 24 from rfl, s0_nf]
      simp only [List.zipIdx_cons, List.zipIdx_nil, List.map_cons, List.map_nil, Nat.reduceAdd, fL]
      repeat' first | refine c_seq ?_ | refine c_reg' rfl fun K E hK hE => ?_ | ((first | refine r_opN fun κ η => ?_ | refine r_opG rfl fun κ η => ?_); simp only [go_sem, Nat.reduceLT, Nat.reduceEqDiff, Nat.reduceAdd, Nat.reduceMul, Nat.reduceLeDiff, Nat.le_refl, reduceIte, reduceCtorEq, c1, c2]; refine η _ ?_; clear η κ) | (refine r_nil (hK _ ?_); clear hE hK E K) | refine q_seq ?_ | refine c_ret ?_ | (refine q_ret ?_; refine q_r1 ?_; simp only [go_sem, Nat.reduceLT, Nat.reduceEqDiff, Nat.reduceAdd, Nat.reduceMul, Nat.reduceLeDiff, Nat.le_refl, reduceIte, reduceCtorEq, c1, c2])
      rw [hb]
  · have hb : isF n l = false := decide_eq_false (fun h => by omega)
    refine ct_of (cls := _root_.id) tt_ok follows_ Tryd.func16 rfl (by decide) (Nat.le_of_ble_eq_true rfl) ?_
    rw [show Tryd.f16.ntmps = 24 from rfl, s0_nf]
    simp only [List.zipIdx_cons, List.zipIdx_nil, List.map_cons, List.map_nil, Nat.reduceAdd, fL]
    repeat' first | refine c_seq ?_ | refine c_reg' rfl fun K E hK hE => ?_ | ((first | refine r_opN fun κ η => ?_ | refine r_opG rfl fun κ η => ?_); simp only [go_sem, Nat.reduceLT, Nat.reduceEqDiff, Nat.reduceAdd, Nat.reduceMul, Nat.reduceLeDiff, Nat.le_refl, reduceIte, reduceCtorEq, c1]; refine η _ ?_; clear η κ) | (refine r_nil (hK _ ?_); clear hE hK E K) | refine q_seq ?_ | refine c_ret ?_ | (refine q_ret ?_; refine q_r1 ?_; simp only [go_sem, Nat.reduceLT, Nat.reduceEqDiff, Nat.reduceAdd, Nat.reduceMul, Nat.reduceLeDiff, Nat.le_refl, reduceIte, reduceCtorEq, c1])
    rw [hb]
end Go.Proofs.YtfflfmpkjcomgaaDoor
