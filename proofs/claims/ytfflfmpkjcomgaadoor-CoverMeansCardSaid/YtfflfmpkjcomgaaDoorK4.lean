import Derived.Test.YtfflfmpkjcomgaaDoorK3
namespace Go.Proofs.YtfflfmpkjcomgaaDoor
open Go.RowKit
set_option maxRecDepth 100000
set_option linter.unusedSimpArgs false
variable (Hy : World → Prop)
attribute [local irreducible] runM runD cwp seqQ blkQ lpQ retQ asQ bdQ bdY retP endR preD retD
theorem check1_some {o : Nat → O} {id g : Nat} {y : A} {e : Int} (ho : o id = ⟨g, .cells 26 [y]⟩) : Cr Tryd.prog Hy 35 [.ptr id g 0] o (some (.t (.ifc 26 (.i .i64 e)))) fun o' => o' = obx o id ⟨g, .cells 26 [.t (.i .i64 e)]⟩ := by
  refine cr_of (cls := _root_.id) tt_ok follows_ Tryd.func35 rfl rfl rfl (by decide) (Nat.le_of_ble_eq_true rfl) (by decide) ?_
  rw [show Tryd.f35.ntmps = 7 from rfl, s0_nf]
  simp only [List.zipIdx_cons, List.zipIdx_nil, List.map_cons, List.map_nil, Nat.reduceAdd]
  simp only [Option.getD_some, Option.getD_none, nf_put]
  repeat' first | refine c_seq ?_ | refine c_reg' rfl fun K E hK hE => ?_ | (refine r_opN fun κ η => ?_; simp only [go_sem, Nat.reduceLT, Nat.reduceEqDiff, Nat.reduceAdd, Nat.reduceMul, Nat.reduceLeDiff, Nat.le_refl, reduceIte, reduceCtorEq, ho]; refine η _ ?_; clear η κ) | (refine r_nil (hK _ ?_); clear hE hK E K) | refine q_seq ?_
  refine c_cond _ rfl (fun hq => ?_) (fun hq => (by cases hq))
  repeat' first | refine c_reg' rfl fun K E hK hE => ?_ | (refine r_opN fun κ η => ?_; simp only [go_sem, Nat.reduceLT, Nat.reduceEqDiff, Nat.reduceAdd, Nat.reduceMul, Nat.reduceLeDiff, Nat.le_refl, reduceIte, reduceCtorEq, ho]; refine η _ ?_; clear η κ) | (refine r_nil (hK _ ?_); clear hE hK E K) | refine q_eN ?_
  rfl
theorem check1_none {o : Nat → O} {id g : Nat} : Cr Tryd.prog Hy 35 [.ptr id g 0] o none fun o' => o' = o := by
  refine cr_of (cls := _root_.id) tt_ok follows_ Tryd.func35 rfl rfl rfl (by decide) (Nat.le_of_ble_eq_true rfl) (by decide) ?_
  rw [show Tryd.f35.ntmps = 7 from rfl, s0_nf]
  simp only [List.zipIdx_cons, List.zipIdx_nil, List.map_cons, List.map_nil, Nat.reduceAdd]
  simp only [Option.getD_some, Option.getD_none, nf_put]
  repeat' first | refine c_seq ?_ | refine c_reg' rfl fun K E hK hE => ?_ | (refine r_opN fun κ η => ?_; simp only [go_sem, Nat.reduceLT, Nat.reduceEqDiff, Nat.reduceAdd, Nat.reduceMul, Nat.reduceLeDiff, Nat.le_refl, reduceIte, reduceCtorEq]; refine η _ ?_; clear η κ) | (refine r_nil (hK _ ?_); clear hE hK E K) | refine q_seq ?_
  refine c_cond _ rfl (fun hq => (by cases hq)) (fun hq => ?_)
  repeat' first | refine c_skip ?_ | refine q_eN ?_
  rfl
/-- what a check tells -/
def isF (n : Int) (l : List Fm) : Bool := decide (l.length ≤ 4000 ∧ 0 ≤ n ∧ n ≤ 4000 ∧ formF n l.length l = some [])
def chkF (n : Int) (l : List Fm) : Int := if isF n l = true then 0 else 1
def InF (l : List Fm) : Prop := ∀ f ∈ l, inR .i64 f.k ∧ inR .i64 f.lit ∧ inR .i64 f.kids
set_option maxHeartbeats 4000000 in
theorem check_ct (l : List Fm) (n : Int) (hl : InF l) (hll : l.length ≤ 1000000) : Ct Tryd.prog Hy 20 [fL l, .i .i64 n] [.i .i64 (chkF n l)] := by
  refine Ct.of_cm (R := fun rs o' => rs = [.t (.i .i64 (chkF n l))]) ?_ ?_
  rotate_left
  · rintro _ o' rfl
    exact rfl
  have hf := fun (hn : 0 ≤ n ∧ n ≤ 4000) (o : Nat → O) (g : Nat) => form_cp Hy n hn l.length l o g (Nat.le_refl _) hll hl
  have hend : ∀ (F : Nat → A) (G : Nat → O) (ts : List (Nat × A)) (os : List (Nat × O)) (x : Int), (nf 26 F G ts os).o 4 = ⟨1, .cells 26 [.t (.i .i64 x)]⟩ → (nf 26 F G ts os).t 4 = .ptr 4 1 0 → x = chkF n l →
      retD Tryd.prog Hy tt Tryd.f20.results.toList 35 [.ptr 4 1 0] (fun rs _ => rs = [.t (.i .i64 (chkF n l))]) .ret (nf 26 F G ts os) := fun F G ts os x h1 h2 h3 => by
    subst h3
    refine q_dT (check1_none Hy) ?_
    rintro _ rfl
    refine q_rc ?_
    have h1' : lookO os 4 (G 4) = ⟨1, .cells 26 [.t (.i .i64 (chkF n l))]⟩ := h1
    have h2' : lookA ts 4 (F 4) = .ptr 4 1 0 := h2
    simp only [go_sem, Nat.reduceLT, Nat.reduceEqDiff, Nat.reduceAdd, Nat.reduceMul, Nat.reduceLeDiff, Nat.le_refl, reduceIte, reduceCtorEq, h1', h2']
  have bad : ∀ q : Prop, q → (q → isF n l = false) → chkF n l = 1 := fun q hq h => by rw [chkF, h hq]; rfl
  refine cmD_of (cls := _root_.id) tt_ok follows_ Tryd.func20 rfl rfl (by decide) (Nat.le_of_ble_eq_true rfl) (by decide) ?_
  rw [show Tryd.f20.ntmps = 26 from rfl, s0_nf]
  simp only [List.zipIdx_cons, List.zipIdx_nil, List.map_cons, List.map_nil, Nat.reduceAdd, fL]
  repeat' first | refine c_reg' rfl fun K E hK hE => ?_ | (refine r_opN fun κ η => ?_; simp only [go_sem, Nat.reduceLT, Nat.reduceEqDiff, Nat.reduceAdd, Nat.reduceMul, Nat.reduceLeDiff, Nat.le_refl, reduceIte, reduceCtorEq]; refine η _ ?_; clear η κ) | (refine r_nil (hK _ ?_); clear hE hK E K) | refine q_pre ?_
  refine ⟨rfl, ?_⟩
  simp only [go_sem, Nat.reduceLT, Nat.reduceEqDiff, Nat.reduceAdd, Nat.reduceMul, Nat.reduceLeDiff, Nat.le_refl, reduceIte, reduceCtorEq]
  by_cases c1 : (4000 : Int) < l.length
  · have hb : isF n l = false := decide_eq_false (fun h => by omega)
    repeat' first | refine c_seq ?_ | refine c_reg' rfl fun K E hK hE => ?_ | ((first | refine r_opN fun κ η => ?_ | refine r_opG rfl fun κ η => ?_); simp only [go_sem, Nat.reduceLT, Nat.reduceEqDiff, Nat.reduceAdd, Nat.reduceMul, Nat.reduceLeDiff, Nat.le_refl, reduceIte, reduceCtorEq, c1]; refine η _ ?_; clear η κ) | (refine r_nil (hK _ ?_); clear hE hK E K) | refine q_seq ?_
    refine c_cond _ rfl (fun hq => ?_) (fun hq => (by cases hq))
    repeat' first | refine c_seq ?_ | refine c_reg' rfl fun K E hK hE => ?_ | (refine r_opN fun κ η => ?_; simp only [go_sem, Nat.reduceLT, Nat.reduceEqDiff, Nat.reduceAdd, Nat.reduceMul, Nat.reduceLeDiff, Nat.le_refl, reduceIte, reduceCtorEq]; refine η _ ?_; clear η κ) | (refine r_nil (hK _ ?_); clear hE hK E K) | refine q_seq ?_ | refine c_ret ?_ | refine q_seqR ?_
    exact hend _ _ _ _ _ rfl rfl (by rw [chkF, hb]; rfl)
  by_cases c2 : n < 0
  · have hb : isF n l = false := decide_eq_false (fun h => by omega)
    repeat' first | refine c_seq ?_ | refine c_reg' rfl fun K E hK hE => ?_ | ((first | refine r_opN fun κ η => ?_ | refine r_opG rfl fun κ η => ?_); simp only [go_sem, Nat.reduceLT, Nat.reduceEqDiff, Nat.reduceAdd, Nat.reduceMul, Nat.reduceLeDiff, Nat.le_refl, reduceIte, reduceCtorEq, c1, c2]; refine η _ ?_; clear η κ) | (refine r_nil (hK _ ?_); clear hE hK E K) | refine q_seq ?_
    refine c_cond _ rfl (fun hq => ?_) (fun hq => (by cases hq))
    repeat' first | refine c_seq ?_ | refine c_reg' rfl fun K E hK hE => ?_ | (refine r_opN fun κ η => ?_; simp only [go_sem, Nat.reduceLT, Nat.reduceEqDiff, Nat.reduceAdd, Nat.reduceMul, Nat.reduceLeDiff, Nat.le_refl, reduceIte, reduceCtorEq]; refine η _ ?_; clear η κ) | (refine r_nil (hK _ ?_); clear hE hK E K) | refine q_seq ?_ | refine c_ret ?_ | refine q_seqR ?_
    exact hend _ _ _ _ _ rfl rfl (by rw [chkF, hb]; rfl)
  by_cases c3 : 4000 < n
  · have hb : isF n l = false := decide_eq_false (fun h => by omega)
    repeat' first | refine c_seq ?_ | refine c_reg' rfl fun K E hK hE => ?_ | ((first | refine r_opN fun κ η => ?_ | refine r_opG rfl fun κ η => ?_); simp only [go_sem, Nat.reduceLT, Nat.reduceEqDiff, Nat.reduceAdd, Nat.reduceMul, Nat.reduceLeDiff, Nat.le_refl, reduceIte, reduceCtorEq, c1, c2, c3]; refine η _ ?_; clear η κ) | (refine r_nil (hK _ ?_); clear hE hK E K) | refine q_seq ?_
    refine c_cond _ rfl (fun hq => ?_) (fun hq => (by cases hq))
    repeat' first | refine c_seq ?_ | refine c_reg' rfl fun K E hK hE => ?_ | (refine r_opN fun κ η => ?_; simp only [go_sem, Nat.reduceLT, Nat.reduceEqDiff, Nat.reduceAdd, Nat.reduceMul, Nat.reduceLeDiff, Nat.le_refl, reduceIte, reduceCtorEq]; refine η _ ?_; clear η κ) | (refine r_nil (hK _ ?_); clear hE hK E K) | refine q_seq ?_ | refine c_ret ?_ | refine q_seqR ?_
    exact hend _ _ _ _ _ rfl rfl (by rw [chkF, hb]; rfl)
  repeat' first | refine c_seq ?_ | refine c_reg' rfl fun K E hK hE => ?_ | ((first | refine r_opN fun κ η => ?_ | refine r_opG rfl fun κ η => ?_); simp only [go_sem, Nat.reduceLT, Nat.reduceEqDiff, Nat.reduceAdd, Nat.reduceMul, Nat.reduceLeDiff, Nat.le_refl, reduceIte, reduceCtorEq, c1, c2, c3]; refine η _ ?_; clear η κ) | (refine r_nil (hK _ ?_); clear hE hK E K) | refine q_seq ?_
  refine c_cond _ rfl (fun hq => (by cases hq)) (fun hq => ?_)
  repeat' first | refine c_seq ?_ | refine c_reg' rfl fun K E hK hE => ?_ | (refine r_opN fun κ η => ?_; simp only [go_sem, Nat.reduceLT, Nat.reduceEqDiff, Nat.reduceAdd, Nat.reduceMul, Nat.reduceLeDiff, Nat.le_refl, reduceIte, reduceCtorEq]; refine η _ ?_; clear η κ) | (refine r_nil (hK _ ?_); clear hE hK E K) | refine q_seq ?_ | refine c_skip ?_
  refine r_callP fun κ η => ?_; simp only [go_sem, Nat.reduceLT, Nat.reduceEqDiff, Nat.reduceAdd, Nat.reduceMul, Nat.reduceLeDiff, Nat.le_refl, reduceIte, reduceCtorEq]; refine ⟨_, _, hf ⟨by omega, by omega⟩ _ _ rfl, ?_, ?_⟩
  · rintro _ o' ⟨rfl, r, e1, e2, _, e4⟩
    (try simp only [go_sem, Nat.reduceLT, Nat.reduceEqDiff, Nat.reduceAdd, Nat.reduceMul, Nat.reduceLeDiff, Nat.le_refl, reduceIte, reduceCtorEq]); refine η _ ?_; clear η κ
    simp only [fL] at e2
    repeat' first | refine c_seq ?_ | refine c_reg' rfl fun K E hK hE => ?_ | (refine r_opN fun κ η => ?_; simp only [go_sem, Nat.reduceLT, Nat.reduceEqDiff, Nat.reduceAdd, Nat.reduceMul, Nat.reduceLeDiff, Nat.le_refl, reduceIte, reduceCtorEq, e2]; (repeat refine ⟨by omega, ?_⟩); refine η _ ?_; clear η κ) | (refine r_nil (hK _ ?_); clear hE hK E K) | refine q_seq ?_
    have e5 : o' 4 = ⟨1, .cells 26 [.t (.i .i64 0)]⟩ := e4 4 (by decide)
    refine c_cond _ rfl (fun hq => ?_) (fun hq => ?_)
    · simp only [decide_eq_true_eq] at hq
      have hb : isF n l = false := decide_eq_false (fun h => by
        rw [e1] at h
        have := h.2.2.2
        cases this
        simp at hq)
      repeat' first | refine c_seq ?_ | refine c_reg' rfl fun K E hK hE => ?_ | (refine r_opN fun κ η => ?_; simp only [go_sem, Nat.reduceLT, Nat.reduceEqDiff, Nat.reduceAdd, Nat.reduceMul, Nat.reduceLeDiff, Nat.le_refl, reduceIte, reduceCtorEq, e5]; refine η _ ?_; clear η κ) | (refine r_nil (hK _ ?_); clear hE hK E K) | refine q_seq ?_ | refine c_ret ?_ | refine q_seqR ?_
      exact hend _ _ _ _ _ rfl rfl (by rw [chkF, hb]; rfl)
    · simp only [decide_eq_false_iff_not] at hq
      have hr : r = [] := by
        cases r with
        | nil => rfl
        | cons a r => simp at hq
      subst hr
      have hb : isF n l = true := decide_eq_true ⟨by omega, by omega, by omega, e1⟩
      repeat' first | refine c_seq ?_ | refine c_reg' rfl fun K E hK hE => ?_ | (refine r_opN fun κ η => ?_; simp only [go_sem, Nat.reduceLT, Nat.reduceEqDiff, Nat.reduceAdd, Nat.reduceMul, Nat.reduceLeDiff, Nat.le_refl, reduceIte, reduceCtorEq, e5]; refine η _ ?_; clear η κ) | (refine r_nil (hK _ ?_); clear hE hK E K) | refine q_seq ?_ | refine c_skip ?_ | refine c_ret ?_
      exact hend _ _ _ _ _ rfl rfl (by rw [chkF, hb]; rfl)
  · rintro _ o' ⟨rfl, e1, e2⟩
    have e5 : o' 4 = ⟨1, .cells 26 [.t (.i .i64 0)]⟩ := e2 4 (by decide)
    have hb : isF n l = false := decide_eq_false (fun h => by
      rw [e1] at h
      cases h.2.2.2)
    (try simp only [go_sem, Nat.reduceLT, Nat.reduceEqDiff, Nat.reduceAdd, Nat.reduceMul, Nat.reduceLeDiff, Nat.le_refl, reduceIte, reduceCtorEq]); refine hE.2.2 _ ?_
    repeat' refine q_seqP ?_
    refine q_dP (check1_some Hy (e := 1) e5) ?_
    rintro o2 ho2
    have h4 : o2 4 = ⟨1, .cells 26 [.t (.i .i64 1)]⟩ := by rw [ho2]; rfl
    clear ho2
    refine q_rc ?_
    rw [chkF, hb]
    simp only [go_sem, Nat.reduceLT, Nat.reduceEqDiff, Nat.reduceAdd, Nat.reduceMul, Nat.reduceLeDiff, Nat.le_refl, reduceIte, reduceCtorEq, h4]
end Go.Proofs.YtfflfmpkjcomgaaDoor
