import Derived.Test.YtfflfmpkjcomgaaDoorK2
namespace Go.Proofs.YtfflfmpkjcomgaaDoor
open Go.RowKit
set_option maxRecDepth 100000
set_option linter.unusedSimpArgs false
section
variable {P : Program} {Hy : World → Prop} {tt : Tys} {cls : Nat → Nat} {s : S} {Q : Exit → S → Prop} {top : Bool} {E : Env}
/-- many ways meet here -/
theorem c_cut {x y : Code} (I : S → Prop) (hy : ∀ s, I s → cwp P Hy tt cls E top y Q s) (hx : ∀ N : S → Prop, (∀ s, I s → N s) → cwp P Hy tt cls E top x (seqQ N Q) s) : cwp P Hy tt cls E top (.seq x y) Q s := c_seq (hx _ hy)
end
variable (Hy : World → Prop)
attribute [local irreducible] runM runD cwp seqQ blkQ lpQ retQ asQ bdQ bdY retP endR preD retD
def Fr (ids : List Nat) (o o' : Nat → O) : Prop := ∀ i, i ∉ ids → o' i = o i
theorem Fr.refl (ids : List Nat) (o : Nat → O) : Fr ids o o := fun _ _ => rfl
theorem Fr.trans {ids : List Nat} {o o1 o2 : Nat → O} (h : Fr ids o o1) (k : Fr ids o1 o2) : Fr ids o o2 := fun i hi => (k i hi).trans (h i hi)
theorem fr_nf {ids : List Nat} {n : Nat} {F : Nat → A} {G : Nat → O} {ts : List (Nat × A)} {os : List (Nat × O)} (h : ∀ p ∈ os.map (·.1), p ∈ ids) : Fr ids G (nf n F G ts os).o := fun _ hi => lookO_other fun p hp e => hi (e ▸ h p hp)
/-- so many of them, one after the other -/
def kidsF (step : List Fm → Option (List Fm)) : Nat → List Fm → Option (List Fm)
  | 0, l => some l
  | k + 1, l => (step l).bind (kidsF step k)
/-- what is left when one form is taken off -/
def formF (n : Int) : Nat → List Fm → Option (List Fm)
  | 0, _ => none
  | _ + 1, [] => none
  | d + 1, f :: l => if plainB n f = true then kidsF (formF n d) f.kids.toNat l else none
theorem kidsF_len {step : List Fm → Option (List Fm)} (h : ∀ l r, step l = some r → r.length < l.length) : ∀ k l r, kidsF step k l = some r → r.length ≤ l.length
  | 0, l, r, e => by cases e; exact Nat.le_refl _
  | k + 1, l, r, e => by
    obtain ⟨m, h1, h2⟩ := Option.bind_eq_some_iff.1 e
    have := h _ _ h1
    have := kidsF_len h k m r h2
    omega
theorem formF_len (n : Int) : ∀ d l r, formF n d l = some r → r.length < l.length
  | 0, _, _, e => by cases e
  | _ + 1, [], _, e => by cases e
  | d + 1, f :: l, r, e => by
    unfold formF at e
    split at e
    · have := kidsF_len (formF_len n d) _ _ _ e
      rw [List.length_cons]
      omega
    · cases e
theorem formF_nil (n : Int) : ∀ d, formF n d [] = none
  | 0 => rfl
  | _ + 1 => rfl
theorem plainB_kids {n : Int} {f : Fm} (h : plainB n f = true) : 0 ≤ f.kids := by
  unfold plainB at h
  split at h
  · have := of_decide_eq_true h; omega
  · split at h
    · have := of_decide_eq_true h; omega
    · have := of_decide_eq_true h; omega
theorem cut1 {α : Type} (x : α) (l : List α) (n : Nat) (h : n = l.length) : List.take (((n + 1 : Nat) : Int) - 1).toNat (List.drop (Int.toNat 1) (x :: l)) = l := by
  subst h
  simp
abbrev bad1 : A := .t (.ifc 26 (.i .i64 1))
set_option maxHeartbeats 8000000 in
theorem form_cp (n : Int) (hn : 0 ≤ n ∧ n ≤ 4000) : ∀ (d : Nat) (l : List Fm) (o : Nat → O) (g : Nat), l.length ≤ d → l.length ≤ 1000000 → (∀ f ∈ l, inR .i64 f.k ∧ inR .i64 f.lit ∧ inR .i64 f.kids) → o 5 = ⟨g, .cells 65 [.t (fL l), .t (.i .i64 n)]⟩ →
    Cp Tryd.prog Hy 36 [.ptr 5 g 0] o (fun rs o' => rs = [] ∧ ∃ r, formF n d l = some r ∧ o' 5 = ⟨g, .cells 65 [.t (fL r), .t (.i .i64 n)]⟩ ∧ (∃ m, r = l.drop m) ∧ Fr [5, 5000] o o') (fun x o' => x = bad1 ∧ formF n d l = none ∧ Fr [5, 5000] o o') := by
  intro d
  induction d with
  | zero =>
    intro l o g hl hl2 hr ho
    have : l = [] := List.length_eq_zero_iff.1 (by omega)
    subst this
    simp only [fL, List.map_nil] at ho
    refine cp_of (cls := fun _ => 5000) tt_ok follows_ Tryd.func36 rfl (by decide) (Nat.le_of_ble_eq_true rfl) ?_
    rw [show Tryd.f36.ntmps = 79 from rfl, s0_nf]
    simp only [List.zipIdx_cons, List.zipIdx_nil, List.map_cons, List.map_nil, Nat.reduceAdd]
    repeat' first | refine c_seq ?_ | refine c_reg' rfl fun K E hK hE => ?_ | (refine r_opN fun κ η => ?_; simp only [go_sem, Nat.reduceLT, Nat.reduceEqDiff, Nat.reduceAdd, Nat.reduceMul, Nat.reduceLeDiff, Nat.le_refl, reduceIte, reduceCtorEq, ho]; (repeat refine ⟨by omega, ?_⟩); refine η _ ?_; clear η κ) | (refine r_nil (hK _ ?_); clear hE hK E K) | refine q_seq ?_
    refine c_cond _ rfl (fun hq => ?_) (fun hq => (by cases hq))
    repeat' first | refine c_reg' rfl fun K E hK hE => ?_ | (refine r_opN fun κ η => ?_; simp only [go_sem, Nat.reduceLT, Nat.reduceEqDiff, Nat.reduceAdd, Nat.reduceMul, Nat.reduceLeDiff, Nat.le_refl, reduceIte, reduceCtorEq, ho]; refine η _ ?_; clear η κ)
    refine r_panic ?_; simp only [go_sem, Nat.reduceLT, Nat.reduceEqDiff, Nat.reduceAdd, Nat.reduceMul, Nat.reduceLeDiff, Nat.le_refl, reduceIte, reduceCtorEq]; refine hE.2.2 _ ?_
    repeat' refine q_seqP ?_
    exact q_pan ⟨rfl, rfl, Fr.refl _ _⟩
  | succ d ih =>
    intro l o g hl hl2 hr ho
    refine cp_of (cls := fun _ => 5000) tt_ok follows_ Tryd.func36 rfl (by decide) (Nat.le_of_ble_eq_true rfl) ?_
    rw [show Tryd.f36.ntmps = 79 from rfl, s0_nf]
    simp only [List.zipIdx_cons, List.zipIdx_nil, List.map_cons, List.map_nil, Nat.reduceAdd]
    cases l with
    | nil =>
      simp only [fL, List.map_nil] at ho
      repeat' first | refine c_seq ?_ | refine c_reg' rfl fun K E hK hE => ?_ | (refine r_opN fun κ η => ?_; simp only [go_sem, Nat.reduceLT, Nat.reduceEqDiff, Nat.reduceAdd, Nat.reduceMul, Nat.reduceLeDiff, Nat.le_refl, reduceIte, reduceCtorEq, ho]; (repeat refine ⟨by omega, ?_⟩); refine η _ ?_; clear η κ) | (refine r_nil (hK _ ?_); clear hE hK E K) | refine q_seq ?_
      refine c_cond _ rfl (fun hq => ?_) (fun hq => (by cases hq))
      repeat' first | refine c_reg' rfl fun K E hK hE => ?_ | (refine r_opN fun κ η => ?_; simp only [go_sem, Nat.reduceLT, Nat.reduceEqDiff, Nat.reduceAdd, Nat.reduceMul, Nat.reduceLeDiff, Nat.le_refl, reduceIte, reduceCtorEq, ho]; refine η _ ?_; clear η κ)
      refine r_panic ?_; simp only [go_sem, Nat.reduceLT, Nat.reduceEqDiff, Nat.reduceAdd, Nat.reduceMul, Nat.reduceLeDiff, Nat.le_refl, reduceIte, reduceCtorEq]; refine hE.2.2 _ ?_
      repeat' refine q_seqP ?_
      exact q_pan ⟨rfl, rfl, Fr.refl _ _⟩
    | cons f l =>
      simp only [fL, List.map_cons] at ho
      have hc1 := cut1 [T.i .i64 f.k, T.i .i64 f.lit, T.i .i64 f.kids] (l.map fun f => [T.i .i64 f.k, T.i .i64 f.lit, T.i .i64 f.kids]) l.length (by simp)
      have hz := eq_true (fm3 (f :: l))
      simp only [List.map_cons] at hz
      have hne : ((((l.map fun f => [T.i .i64 f.k, T.i .i64 f.lit, T.i .i64 f.kids]).length + 1 : Nat) : Int) = 0) = False := eq_false (by omega)
      repeat' first | refine c_seq ?_ | refine c_reg' rfl fun K E hK hE => ?_ | (refine r_opN fun κ η => ?_; simp only [go_sem, Nat.reduceLT, Nat.reduceEqDiff, Nat.reduceAdd, Nat.reduceMul, Nat.reduceLeDiff, Nat.le_refl, reduceIte, reduceCtorEq, ho, List.length_cons, hne]; (repeat refine ⟨by omega, ?_⟩); refine η _ ?_; clear η κ) | (refine r_nil (hK _ ?_); clear hE hK E K) | refine q_seq ?_
      refine c_cond _ rfl (fun hq => (by cases hq)) (fun hq => ?_)
      refine c_skip ?_
      refine q_seq ?_
      refine c_seq ?_
      repeat' first | refine c_reg' rfl fun K E hK hE => ?_ | (refine r_opN fun κ η => ?_; simp only [go_sem, Nat.reduceLT, Nat.reduceEqDiff, Nat.reduceAdd, Nat.reduceMul, Nat.reduceLeDiff, Nat.le_refl, reduceIte, reduceCtorEq, ho]; (repeat refine ⟨by omega, ?_⟩); refine η _ ?_; clear η κ) | (refine r_nil (hK _ ?_); clear hE hK E K) | refine q_seq ?_
      refine c_seq ?_
      repeat' first | refine c_reg' rfl fun K E hK hE => ?_ | (refine r_opN fun κ η => ?_; simp only [go_sem, Nat.reduceLT, Nat.reduceEqDiff, Nat.reduceAdd, Nat.reduceMul, Nat.reduceLeDiff, Nat.le_refl, reduceIte, reduceCtorEq, ho, List.length_cons, List.length_map, hz, hc1]; (repeat refine ⟨by omega, ?_⟩); refine η _ ?_; clear η κ) | (refine r_nil (hK _ ?_); clear hE hK E K) | refine q_seq ?_
      refine c_seq ?_
      repeat' first | refine c_reg' rfl fun K E hK hE => ?_ | (refine r_opN fun κ η => ?_; simp only [go_sem, Nat.reduceLT, Nat.reduceEqDiff, Nat.reduceAdd, Nat.reduceMul, Nat.reduceLeDiff, Nat.le_refl, reduceIte, reduceCtorEq]; refine η _ ?_; clear η κ) | (refine r_nil (hK _ ?_); clear hE hK E K) | refine q_seq ?_
      refine c_cut (fun s => ∃ F oc g2, s = nf 79 F oc [(0, .ptr 5 g 0), (2, .ptr 5000 g2 0), (3, .t (.b (plainB n f)))] [] ∧ oc 5 = ⟨g, .cells 65 [.t (fL l), .t (.i .i64 n)]⟩ ∧ oc 5000 = ⟨g2, .cells 52 [.t (.i .i64 f.k), .t (.i .i64 f.lit), .t (.i .i64 f.kids)]⟩ ∧ Fr [5, 5000] o oc) ?_ ?_
      rotate_left
      · intro N hN
        obtain ⟨k, lit, kids⟩ := f
        by_cases c0 : k = 0
        · subst c0
          repeat' first | refine c_seq ?_ | refine c_block ?_ | refine c_reg' rfl fun K E hK hE => ?_ | (refine r_opN fun κ η => ?_; simp only [go_sem, Nat.reduceLT, Nat.reduceEqDiff, Nat.reduceAdd, Nat.reduceMul, Nat.reduceLeDiff, Nat.le_refl, reduceIte, reduceCtorEq]; (repeat refine ⟨by omega, ?_⟩); refine η _ ?_; clear η κ) | (refine r_nil (hK _ ?_); clear hE hK E K) | refine q_seq ?_
          refine c_cond _ rfl (fun hq => ?_) (fun hq => (by cases hq))
          repeat' first | refine q_seq ?_ | refine c_skip ?_
          refine c_cond _ rfl (fun hq => ?_) (fun hq => (by cases hq))
          by_cases c4 : lit = 0
          · subst c4
            repeat' first | refine c_reg' rfl fun K E hK hE => ?_ | ((first | refine r_opN fun κ η => ?_ | refine r_opG rfl fun κ η => ?_); simp only [go_sem, Nat.reduceLT, Nat.reduceEqDiff, Nat.reduceAdd, Nat.reduceMul, Nat.reduceLeDiff, Nat.le_refl, reduceIte, reduceCtorEq, Int.reduceEq]; (repeat refine ⟨by omega, ?_⟩); refine η _ ?_; clear η κ) | (refine r_nil (hK _ ?_); clear hE hK E K) | refine q_seq ?_ | refine q_blk ?_
            refine hN _ ⟨_, _, _, nf_of rfl ⟨rfl, rfl, congrArg (fun b => A.t (.b b)) ?_, trivial⟩ trivial, rfl, rfl, fr_nf (fun p hp => by simp only [List.map_cons, List.map_nil, List.mem_cons, List.not_mem_nil, or_false] at hp ⊢; omega)⟩
            simp [plainB]
          · repeat' first | refine c_reg' rfl fun K E hK hE => ?_ | ((first | refine r_opN fun κ η => ?_ | refine r_opG rfl fun κ η => ?_); simp only [go_sem, Nat.reduceLT, Nat.reduceEqDiff, Nat.reduceAdd, Nat.reduceMul, Nat.reduceLeDiff, Nat.le_refl, reduceIte, reduceCtorEq, c4]; (repeat refine ⟨by omega, ?_⟩); refine η _ ?_; clear η κ) | (refine r_nil (hK _ ?_); clear hE hK E K) | refine q_seq ?_ | refine q_blk ?_
            refine hN _ ⟨_, _, _, nf_of rfl ⟨rfl, rfl, congrArg (fun b => A.t (.b b)) ?_, trivial⟩ trivial, rfl, rfl, fr_nf (fun p hp => by simp only [List.map_cons, List.map_nil, List.mem_cons, List.not_mem_nil, or_false] at hp ⊢; omega)⟩
            simp [plainB, c4]
        by_cases c1 : k = 1
        · subst c1
          repeat' first | refine c_seq ?_ | refine c_block ?_ | refine c_reg' rfl fun K E hK hE => ?_ | (refine r_opN fun κ η => ?_; simp only [go_sem, Nat.reduceLT, Nat.reduceEqDiff, Nat.reduceAdd, Nat.reduceMul, Nat.reduceLeDiff, Nat.le_refl, reduceIte, reduceCtorEq, Int.reduceEq]; (repeat refine ⟨by omega, ?_⟩); refine η _ ?_; clear η κ) | (refine r_nil (hK _ ?_); clear hE hK E K) | refine q_seq ?_
          refine c_cond _ rfl (fun hq => (by cases hq)) (fun hq => ?_)
          repeat' first | refine c_reg' rfl fun K E hK hE => ?_ | (refine r_opN fun κ η => ?_; simp only [go_sem, Nat.reduceLT, Nat.reduceEqDiff, Nat.reduceAdd, Nat.reduceMul, Nat.reduceLeDiff, Nat.le_refl, reduceIte, reduceCtorEq, Int.reduceEq]; refine η _ ?_; clear η κ) | (refine r_nil (hK _ ?_); clear hE hK E K) | refine q_seq ?_
          refine c_cond _ rfl (fun hq => ?_) (fun hq => (by cases hq))
          by_cases c4 : lit = 0
          · subst c4
            repeat' first | refine c_reg' rfl fun K E hK hE => ?_ | ((first | refine r_opN fun κ η => ?_ | refine r_opG rfl fun κ η => ?_); simp only [go_sem, Nat.reduceLT, Nat.reduceEqDiff, Nat.reduceAdd, Nat.reduceMul, Nat.reduceLeDiff, Nat.le_refl, reduceIte, reduceCtorEq, Int.reduceEq]; (repeat refine ⟨by omega, ?_⟩); refine η _ ?_; clear η κ) | (refine r_nil (hK _ ?_); clear hE hK E K) | refine q_seq ?_ | refine q_blk ?_
            refine hN _ ⟨_, _, _, nf_of rfl ⟨rfl, rfl, congrArg (fun b => A.t (.b b)) ?_, trivial⟩ trivial, rfl, rfl, fr_nf (fun p hp => by simp only [List.map_cons, List.map_nil, List.mem_cons, List.not_mem_nil, or_false] at hp ⊢; omega)⟩
            simp [plainB]
          · repeat' first | refine c_reg' rfl fun K E hK hE => ?_ | ((first | refine r_opN fun κ η => ?_ | refine r_opG rfl fun κ η => ?_); simp only [go_sem, Nat.reduceLT, Nat.reduceEqDiff, Nat.reduceAdd, Nat.reduceMul, Nat.reduceLeDiff, Nat.le_refl, reduceIte, reduceCtorEq, c4]; (repeat refine ⟨by omega, ?_⟩); refine η _ ?_; clear η κ) | (refine r_nil (hK _ ?_); clear hE hK E K) | refine q_seq ?_ | refine q_blk ?_
            refine hN _ ⟨_, _, _, nf_of rfl ⟨rfl, rfl, congrArg (fun b => A.t (.b b)) ?_, trivial⟩ trivial, rfl, rfl, fr_nf (fun p hp => by simp only [List.map_cons, List.map_nil, List.mem_cons, List.not_mem_nil, or_false] at hp ⊢; omega)⟩
            simp [plainB, c4]
        by_cases c2 : k = 2
        · subst c2
          repeat' first | refine c_seq ?_ | refine c_block ?_ | refine c_reg' rfl fun K E hK hE => ?_ | (refine r_opN fun κ η => ?_; simp only [go_sem, Nat.reduceLT, Nat.reduceEqDiff, Nat.reduceAdd, Nat.reduceMul, Nat.reduceLeDiff, Nat.le_refl, reduceIte, reduceCtorEq, Int.reduceEq]; (repeat refine ⟨by omega, ?_⟩); refine η _ ?_; clear η κ) | (refine r_nil (hK _ ?_); clear hE hK E K) | refine q_seq ?_
          refine c_cond _ rfl (fun hq => (by cases hq)) (fun hq => ?_)
          repeat' first | refine c_reg' rfl fun K E hK hE => ?_ | (refine r_opN fun κ η => ?_; simp only [go_sem, Nat.reduceLT, Nat.reduceEqDiff, Nat.reduceAdd, Nat.reduceMul, Nat.reduceLeDiff, Nat.le_refl, reduceIte, reduceCtorEq, Int.reduceEq]; refine η _ ?_; clear η κ) | (refine r_nil (hK _ ?_); clear hE hK E K) | refine q_seq ?_
          refine c_cond _ rfl (fun hq => (by cases hq)) (fun hq => ?_)
          repeat' first | refine c_seq ?_ | refine c_reg' rfl fun K E hK hE => ?_ | (refine r_opN fun κ η => ?_; simp only [go_sem, Nat.reduceLT, Nat.reduceEqDiff, Nat.reduceAdd, Nat.reduceMul, Nat.reduceLeDiff, Nat.le_refl, reduceIte, reduceCtorEq, Int.reduceEq]; refine η _ ?_; clear η κ) | (refine r_nil (hK _ ?_); clear hE hK E K) | refine q_seq ?_
          have hlr := (hr _ List.mem_cons_self).2.1
          simp only [inR] at hlr
          refine c_cond _ rfl (fun hq => ?_) (fun hq => (by cases hq))
          by_cases c3 : 0 ≤ lit
          · have hdv := Int.tdiv_eq_ediv_of_nonneg c3 (b := 2)
            by_cases c4 : lit / 2 < n
            · have c5 : lit < 2 * n := by omega
              repeat' first | refine c_draw' rfl (by kernel_rfl) fun K E hK hE => ?_ | ((first | refine d_opN (by kernel_rfl) fun κ η => ?_ | refine d_opG (by kernel_rfl) rfl fun κ η => ?_); simp only [go_sem, Nat.reduceLT, Nat.reduceEqDiff, Nat.reduceAdd, Nat.reduceMul, Nat.reduceLeDiff, Nat.le_refl, reduceIte, reduceCtorEq, c3, c4, hdv]; (repeat refine ⟨by omega, ?_⟩); refine η _ ?_; clear η κ) | refine q_seq ?_ | (refine d_nil (hK _ ?_); clear hE hK E K) | refine q_blk ?_
              refine hN _ ⟨_, _, _, nf_of rfl ⟨rfl, rfl, congrArg (fun b => A.t (.b b)) ?_, trivial⟩ trivial, rfl, rfl, fr_nf (fun p hp => by simp only [List.map_cons, List.map_nil, List.mem_cons, List.not_mem_nil, or_false] at hp ⊢; omega)⟩
              simp [plainB, c3, c5]
            · have c5 : ¬ lit < 2 * n := by omega
              repeat' first | refine c_draw' rfl (by kernel_rfl) fun K E hK hE => ?_ | ((first | refine d_opN (by kernel_rfl) fun κ η => ?_ | refine d_opG (by kernel_rfl) rfl fun κ η => ?_); simp only [go_sem, Nat.reduceLT, Nat.reduceEqDiff, Nat.reduceAdd, Nat.reduceMul, Nat.reduceLeDiff, Nat.le_refl, reduceIte, reduceCtorEq, c3, c4, hdv]; (repeat refine ⟨by omega, ?_⟩); refine η _ ?_; clear η κ) | refine q_seq ?_ | (refine d_nil (hK _ ?_); clear hE hK E K) | refine q_blk ?_
              refine hN _ ⟨_, _, _, nf_of rfl ⟨rfl, rfl, congrArg (fun b => A.t (.b b)) ?_, trivial⟩ trivial, rfl, rfl, fr_nf (fun p hp => by simp only [List.map_cons, List.map_nil, List.mem_cons, List.not_mem_nil, or_false] at hp ⊢; omega)⟩
              simp [plainB, c3, c5]
          · repeat' first | refine c_draw' rfl (by kernel_rfl) fun K E hK hE => ?_ | ((first | refine d_opN (by kernel_rfl) fun κ η => ?_ | refine d_opG (by kernel_rfl) rfl fun κ η => ?_); simp only [go_sem, Nat.reduceLT, Nat.reduceEqDiff, Nat.reduceAdd, Nat.reduceMul, Nat.reduceLeDiff, Nat.le_refl, reduceIte, reduceCtorEq, c3]; (repeat refine ⟨by omega, ?_⟩); refine η _ ?_; clear η κ) | refine q_seq ?_ | (refine d_nil (hK _ ?_); clear hE hK E K) | refine q_blk ?_
            refine hN _ ⟨_, _, _, nf_of rfl ⟨rfl, rfl, congrArg (fun b => A.t (.b b)) ?_, trivial⟩ trivial, rfl, rfl, fr_nf (fun p hp => by simp only [List.map_cons, List.map_nil, List.mem_cons, List.not_mem_nil, or_false] at hp ⊢; omega)⟩
            simp [plainB, c3]
        by_cases c3 : k = 3
        · subst c3
          repeat' first | refine c_seq ?_ | refine c_block ?_ | refine c_reg' rfl fun K E hK hE => ?_ | (refine r_opN fun κ η => ?_; simp only [go_sem, Nat.reduceLT, Nat.reduceEqDiff, Nat.reduceAdd, Nat.reduceMul, Nat.reduceLeDiff, Nat.le_refl, reduceIte, reduceCtorEq, Int.reduceEq]; (repeat refine ⟨by omega, ?_⟩); refine η _ ?_; clear η κ) | (refine r_nil (hK _ ?_); clear hE hK E K) | refine q_seq ?_
          refine c_cond _ rfl (fun hq => (by cases hq)) (fun hq => ?_)
          repeat' first | refine c_reg' rfl fun K E hK hE => ?_ | (refine r_opN fun κ η => ?_; simp only [go_sem, Nat.reduceLT, Nat.reduceEqDiff, Nat.reduceAdd, Nat.reduceMul, Nat.reduceLeDiff, Nat.le_refl, reduceIte, reduceCtorEq, Int.reduceEq]; refine η _ ?_; clear η κ) | (refine r_nil (hK _ ?_); clear hE hK E K) | refine q_seq ?_
          refine c_cond _ rfl (fun hq => (by cases hq)) (fun hq => ?_)
          repeat' first | refine c_seq ?_ | refine c_reg' rfl fun K E hK hE => ?_ | (refine r_opN fun κ η => ?_; simp only [go_sem, Nat.reduceLT, Nat.reduceEqDiff, Nat.reduceAdd, Nat.reduceMul, Nat.reduceLeDiff, Nat.le_refl, reduceIte, reduceCtorEq, Int.reduceEq]; refine η _ ?_; clear η κ) | (refine r_nil (hK _ ?_); clear hE hK E K) | refine q_seq ?_
          refine c_cond _ rfl (fun hq => (by cases hq)) (fun hq => ?_)
          repeat' first | refine c_seq ?_ | refine c_reg' rfl fun K E hK hE => ?_ | (refine r_opN fun κ η => ?_; simp only [go_sem, Nat.reduceLT, Nat.reduceEqDiff, Nat.reduceAdd, Nat.reduceMul, Nat.reduceLeDiff, Nat.le_refl, reduceIte, reduceCtorEq, Int.reduceEq]; refine η _ ?_; clear η κ) | (refine r_nil (hK _ ?_); clear hE hK E K) | refine q_seq ?_
          refine c_cond _ rfl (fun hq => ?_) (fun hq => (by cases hq))
          repeat' first | refine q_seq ?_ | refine c_skip ?_
          refine c_cond _ rfl (fun hq => ?_) (fun hq => (by cases hq))
          by_cases c4 : lit = 0
          · subst c4
            repeat' first | refine c_reg' rfl fun K E hK hE => ?_ | ((first | refine r_opN fun κ η => ?_ | refine r_opG rfl fun κ η => ?_); simp only [go_sem, Nat.reduceLT, Nat.reduceEqDiff, Nat.reduceAdd, Nat.reduceMul, Nat.reduceLeDiff, Nat.le_refl, reduceIte, reduceCtorEq, Int.reduceEq]; (repeat refine ⟨by omega, ?_⟩); refine η _ ?_; clear η κ) | (refine r_nil (hK _ ?_); clear hE hK E K) | refine q_seq ?_ | refine q_blk ?_
            refine hN _ ⟨_, _, _, nf_of rfl ⟨rfl, rfl, congrArg (fun b => A.t (.b b)) ?_, trivial⟩ trivial, rfl, rfl, fr_nf (fun p hp => by simp only [List.map_cons, List.map_nil, List.mem_cons, List.not_mem_nil, or_false] at hp ⊢; omega)⟩
            simp [plainB]
          · repeat' first | refine c_reg' rfl fun K E hK hE => ?_ | ((first | refine r_opN fun κ η => ?_ | refine r_opG rfl fun κ η => ?_); simp only [go_sem, Nat.reduceLT, Nat.reduceEqDiff, Nat.reduceAdd, Nat.reduceMul, Nat.reduceLeDiff, Nat.le_refl, reduceIte, reduceCtorEq, c4]; (repeat refine ⟨by omega, ?_⟩); refine η _ ?_; clear η κ) | (refine r_nil (hK _ ?_); clear hE hK E K) | refine q_seq ?_ | refine q_blk ?_
            refine hN _ ⟨_, _, _, nf_of rfl ⟨rfl, rfl, congrArg (fun b => A.t (.b b)) ?_, trivial⟩ trivial, rfl, rfl, fr_nf (fun p hp => by simp only [List.map_cons, List.map_nil, List.mem_cons, List.not_mem_nil, or_false] at hp ⊢; omega)⟩
            simp [plainB, c4]
        by_cases c5 : k = 4
        · subst c5
          repeat' first | refine c_seq ?_ | refine c_block ?_ | refine c_reg' rfl fun K E hK hE => ?_ | (refine r_opN fun κ η => ?_; simp only [go_sem, Nat.reduceLT, Nat.reduceEqDiff, Nat.reduceAdd, Nat.reduceMul, Nat.reduceLeDiff, Nat.le_refl, reduceIte, reduceCtorEq, Int.reduceEq]; (repeat refine ⟨by omega, ?_⟩); refine η _ ?_; clear η κ) | (refine r_nil (hK _ ?_); clear hE hK E K) | refine q_seq ?_
          refine c_cond _ rfl (fun hq => (by cases hq)) (fun hq => ?_)
          repeat' first | refine c_reg' rfl fun K E hK hE => ?_ | (refine r_opN fun κ η => ?_; simp only [go_sem, Nat.reduceLT, Nat.reduceEqDiff, Nat.reduceAdd, Nat.reduceMul, Nat.reduceLeDiff, Nat.le_refl, reduceIte, reduceCtorEq, Int.reduceEq]; refine η _ ?_; clear η κ) | (refine r_nil (hK _ ?_); clear hE hK E K) | refine q_seq ?_
          refine c_cond _ rfl (fun hq => (by cases hq)) (fun hq => ?_)
          repeat' first | refine c_seq ?_ | refine c_reg' rfl fun K E hK hE => ?_ | (refine r_opN fun κ η => ?_; simp only [go_sem, Nat.reduceLT, Nat.reduceEqDiff, Nat.reduceAdd, Nat.reduceMul, Nat.reduceLeDiff, Nat.le_refl, reduceIte, reduceCtorEq, Int.reduceEq]; refine η _ ?_; clear η κ) | (refine r_nil (hK _ ?_); clear hE hK E K) | refine q_seq ?_
          refine c_cond _ rfl (fun hq => (by cases hq)) (fun hq => ?_)
          repeat' first | refine c_seq ?_ | refine c_reg' rfl fun K E hK hE => ?_ | (refine r_opN fun κ η => ?_; simp only [go_sem, Nat.reduceLT, Nat.reduceEqDiff, Nat.reduceAdd, Nat.reduceMul, Nat.reduceLeDiff, Nat.le_refl, reduceIte, reduceCtorEq, Int.reduceEq]; refine η _ ?_; clear η κ) | (refine r_nil (hK _ ?_); clear hE hK E K) | refine q_seq ?_
          refine c_cond _ rfl (fun hq => (by cases hq)) (fun hq => ?_)
          repeat' first | refine c_reg' rfl fun K E hK hE => ?_ | (refine r_opN fun κ η => ?_; simp only [go_sem, Nat.reduceLT, Nat.reduceEqDiff, Nat.reduceAdd, Nat.reduceMul, Nat.reduceLeDiff, Nat.le_refl, reduceIte, reduceCtorEq, Int.reduceEq]; refine η _ ?_; clear η κ) | (refine r_nil (hK _ ?_); clear hE hK E K) | refine q_seq ?_
          refine c_cond _ rfl (fun hq => ?_) (fun hq => (by cases hq))
          by_cases c4 : lit = 0
          · subst c4
            repeat' first | refine c_reg' rfl fun K E hK hE => ?_ | ((first | refine r_opN fun κ η => ?_ | refine r_opG rfl fun κ η => ?_); simp only [go_sem, Nat.reduceLT, Nat.reduceEqDiff, Nat.reduceAdd, Nat.reduceMul, Nat.reduceLeDiff, Nat.le_refl, reduceIte, reduceCtorEq, Int.reduceEq]; (repeat refine ⟨by omega, ?_⟩); refine η _ ?_; clear η κ) | (refine r_nil (hK _ ?_); clear hE hK E K) | refine q_seq ?_ | refine q_blk ?_
            refine hN _ ⟨_, _, _, nf_of rfl ⟨rfl, rfl, congrArg (fun b => A.t (.b b)) ?_, trivial⟩ trivial, rfl, rfl, fr_nf (fun p hp => by simp only [List.map_cons, List.map_nil, List.mem_cons, List.not_mem_nil, or_false] at hp ⊢; omega)⟩
            simp [plainB]
          · repeat' first | refine c_reg' rfl fun K E hK hE => ?_ | ((first | refine r_opN fun κ η => ?_ | refine r_opG rfl fun κ η => ?_); simp only [go_sem, Nat.reduceLT, Nat.reduceEqDiff, Nat.reduceAdd, Nat.reduceMul, Nat.reduceLeDiff, Nat.le_refl, reduceIte, reduceCtorEq, c4]; (repeat refine ⟨by omega, ?_⟩); refine η _ ?_; clear η κ) | (refine r_nil (hK _ ?_); clear hE hK E K) | refine q_seq ?_ | refine q_blk ?_
            refine hN _ ⟨_, _, _, nf_of rfl ⟨rfl, rfl, congrArg (fun b => A.t (.b b)) ?_, trivial⟩ trivial, rfl, rfl, fr_nf (fun p hp => by simp only [List.map_cons, List.map_nil, List.mem_cons, List.not_mem_nil, or_false] at hp ⊢; omega)⟩
            simp [plainB, c4]
        repeat' first | refine c_seq ?_ | refine c_block ?_ | refine c_reg' rfl fun K E hK hE => ?_ | (refine r_opN fun κ η => ?_; simp only [go_sem, Nat.reduceLT, Nat.reduceEqDiff, Nat.reduceAdd, Nat.reduceMul, Nat.reduceLeDiff, Nat.le_refl, reduceIte, reduceCtorEq, c0]; (repeat refine ⟨by omega, ?_⟩); refine η _ ?_; clear η κ) | (refine r_nil (hK _ ?_); clear hE hK E K) | refine q_seq ?_
        refine c_cond _ rfl (fun hq => (by cases hq)) (fun hq => ?_)
        repeat' first | refine c_reg' rfl fun K E hK hE => ?_ | (refine r_opN fun κ η => ?_; simp only [go_sem, Nat.reduceLT, Nat.reduceEqDiff, Nat.reduceAdd, Nat.reduceMul, Nat.reduceLeDiff, Nat.le_refl, reduceIte, reduceCtorEq, Int.reduceEq, c1]; refine η _ ?_; clear η κ) | (refine r_nil (hK _ ?_); clear hE hK E K) | refine q_seq ?_
        refine c_cond _ rfl (fun hq => (by cases hq)) (fun hq => ?_)
        repeat' first | refine c_seq ?_ | refine c_reg' rfl fun K E hK hE => ?_ | (refine r_opN fun κ η => ?_; simp only [go_sem, Nat.reduceLT, Nat.reduceEqDiff, Nat.reduceAdd, Nat.reduceMul, Nat.reduceLeDiff, Nat.le_refl, reduceIte, reduceCtorEq, Int.reduceEq, c2]; refine η _ ?_; clear η κ) | (refine r_nil (hK _ ?_); clear hE hK E K) | refine q_seq ?_
        refine c_cond _ rfl (fun hq => (by cases hq)) (fun hq => ?_)
        repeat' first | refine c_seq ?_ | refine c_reg' rfl fun K E hK hE => ?_ | (refine r_opN fun κ η => ?_; simp only [go_sem, Nat.reduceLT, Nat.reduceEqDiff, Nat.reduceAdd, Nat.reduceMul, Nat.reduceLeDiff, Nat.le_refl, reduceIte, reduceCtorEq, Int.reduceEq, c3]; refine η _ ?_; clear η κ) | (refine r_nil (hK _ ?_); clear hE hK E K) | refine q_seq ?_
        refine c_cond _ rfl (fun hq => (by cases hq)) (fun hq => ?_)
        repeat' first | refine c_reg' rfl fun K E hK hE => ?_ | (refine r_opN fun κ η => ?_; simp only [go_sem, Nat.reduceLT, Nat.reduceEqDiff, Nat.reduceAdd, Nat.reduceMul, Nat.reduceLeDiff, Nat.le_refl, reduceIte, reduceCtorEq, Int.reduceEq, c5]; refine η _ ?_; clear η κ) | (refine r_nil (hK _ ?_); clear hE hK E K) | refine q_seq ?_
        refine c_cond _ rfl (fun hq => (by cases hq)) (fun hq => ?_)
        repeat' first | refine q_seq ?_ | refine q_blk ?_ | refine c_skip ?_
        refine hN _ ⟨_, _, _, nf_of rfl ⟨rfl, rfl, congrArg (fun b => A.t (.b b)) ?_, trivial⟩ trivial, rfl, rfl, fr_nf (fun p hp => by simp only [List.map_cons, List.map_nil, List.mem_cons, List.not_mem_nil, or_false] at hp ⊢; omega)⟩
        simp [plainB, c0, c1, c2, c3, c5]
      rintro s ⟨F, oc, g2, rfl, h5, h50, hF⟩
      have hun : formF n (d + 1) (f :: l) = if plainB n f = true then kidsF (formF n d) f.kids.toNat l else none := rfl
      cases hb : plainB n f with
      | false =>
        rw [hb, if_neg (by decide)] at hun
        repeat' first | refine c_seq ?_ | refine c_reg' rfl fun K E hK hE => ?_ | (refine r_opN fun κ η => ?_; simp only [go_sem, Nat.reduceLT, Nat.reduceEqDiff, Nat.reduceAdd, Nat.reduceMul, Nat.reduceLeDiff, Nat.le_refl, reduceIte, reduceCtorEq]; refine η _ ?_; clear η κ) | (refine r_nil (hK _ ?_); clear hE hK E K) | refine q_seq ?_
        refine c_cond _ rfl (fun hq => ?_) (fun hq => (by cases hq))
        repeat' first | refine c_reg' rfl fun K E hK hE => ?_ | (refine r_opN fun κ η => ?_; simp only [go_sem, Nat.reduceLT, Nat.reduceEqDiff, Nat.reduceAdd, Nat.reduceMul, Nat.reduceLeDiff, Nat.le_refl, reduceIte, reduceCtorEq]; refine η _ ?_; clear η κ)
        refine r_panic ?_; simp only [go_sem, Nat.reduceLT, Nat.reduceEqDiff, Nat.reduceAdd, Nat.reduceMul, Nat.reduceLeDiff, Nat.le_refl, reduceIte, reduceCtorEq]; refine hE.2.2 _ ?_
        repeat' refine q_seqP ?_
        exact q_pan ⟨rfl, hun, hF⟩
      | true =>
        rw [hb, if_pos rfl] at hun
        have hk := plainB_kids hb
        rw [List.length_cons] at hl hl2
        obtain ⟨K, hK0⟩ : ∃ K : Nat, f.kids = K := ⟨f.kids.toNat, by omega⟩
        rw [hK0, Int.toNat_natCast] at hun
        rw [hK0] at h50
        repeat' first | refine c_seq ?_ | refine c_reg' rfl fun K E hK hE => ?_ | (refine r_opN fun κ η => ?_; simp only [go_sem, Nat.reduceLT, Nat.reduceEqDiff, Nat.reduceAdd, Nat.reduceMul, Nat.reduceLeDiff, Nat.le_refl, reduceIte, reduceCtorEq]; refine η _ ?_; clear η κ) | (refine r_nil (hK _ ?_); clear hE hK E K) | refine q_seq ?_
        refine c_cond _ rfl (fun hq => (by cases hq)) (fun hq => ?_)
        repeat' first | refine c_seq ?_ | refine c_block ?_ | refine c_reg' rfl fun K E hK hE => ?_ | (refine r_opN fun κ η => ?_; simp only [go_sem, Nat.reduceLT, Nat.reduceEqDiff, Nat.reduceAdd, Nat.reduceMul, Nat.reduceLeDiff, Nat.le_refl, reduceIte, reduceCtorEq, h50]; (repeat refine ⟨by omega, ?_⟩); refine η _ ?_; clear η κ) | (refine r_nil (hK _ ?_); clear hE hK E K) | refine q_seq ?_ | refine c_skip ?_
        refine c_loop (fun m s' => ∃ k : Nat, m = K - k ∧ k ≤ K ∧ ∃ l' F G0, s' = nf 79 F G0 [(0, .ptr 5 g 0), (73, .t (.i .i64 K)), (74, .t (.i .i64 k))] [] ∧ G0 5 = ⟨g, .cells 65 [.t (fL l'), .t (.i .i64 n)]⟩ ∧ Fr [5, 5000] o G0 ∧ kidsF (formF n d) (K - k) l' = kidsF (formF n d) K l ∧ k + l'.length ≤ l.length ∧ ∃ m, l' = l.drop m) K ?_ ?_
        · exact ⟨0, by omega, by omega, l, _, _, nf_of rfl ⟨rfl, rfl, rfl, trivial⟩ trivial, h5, hF, rfl, by omega, 0, rfl⟩
        rintro m s' ⟨k, rfl, hk2, l', F, G0, rfl, g5, hF2, hkf, hkl, m, hm⟩
        repeat' first | refine c_seq ?_ | refine c_reg' rfl fun K E hK hE => ?_ | (refine r_opN fun κ η => ?_; simp only [go_sem, Nat.reduceLT, Nat.reduceEqDiff, Nat.reduceAdd, Nat.reduceMul, Nat.reduceLeDiff, Nat.le_refl, reduceIte, reduceCtorEq]; refine η _ ?_; clear η κ) | (refine r_nil (hK _ ?_); clear hE hK E K) | refine q_seq ?_
        refine c_cond _ rfl (fun hq => ?_) (fun hq => ?_)
        · simp only [decide_eq_true_eq] at hq
          obtain ⟨q, hq2⟩ : ∃ q, K - k = q + 1 := ⟨K - (k + 1), by omega⟩
          have hkq : kidsF (formF n d) (q + 1) l' = (formF n d l').bind (kidsF (formF n d) q) := rfl
          rw [hq2, hkq] at hkf
          repeat' first | refine c_seq ?_ | refine c_block ?_ | refine c_reg' rfl fun K E hK hE => ?_ | (refine r_opN fun κ η => ?_; simp only [go_sem, Nat.reduceLT, Nat.reduceEqDiff, Nat.reduceAdd, Nat.reduceMul, Nat.reduceLeDiff, Nat.le_refl, reduceIte, reduceCtorEq]; refine η _ ?_; clear η κ) | refine q_seq ?_ | refine c_skip ?_
          refine r_callP fun κ η => ?_; simp only [go_sem, Nat.reduceLT, Nat.reduceEqDiff, Nat.reduceAdd, Nat.reduceMul, Nat.reduceLeDiff, Nat.le_refl, reduceIte, reduceCtorEq]; refine ⟨_, _, ih l' _ g (by omega) (by omega) (fun x hx => hr x (List.mem_cons_of_mem _ (List.mem_of_mem_drop (hm ▸ hx)))) g5, ?_, ?_⟩
          · rintro _ o' ⟨rfl, r, e1, e2, ⟨m2, e3⟩, e4⟩
            have hlen := formF_len _ _ _ _ e1
            rw [e1, Option.bind_some] at hkf
            (try simp only [go_sem, Nat.reduceLT, Nat.reduceEqDiff, Nat.reduceAdd, Nat.reduceMul, Nat.reduceLeDiff, Nat.le_refl, reduceIte, reduceCtorEq]); refine η _ ?_; clear η κ
            repeat' first | refine c_reg' rfl fun K E hK hE => ?_ | (refine r_opN fun κ η => ?_; simp only [go_sem, Nat.reduceLT, Nat.reduceEqDiff, Nat.reduceAdd, Nat.reduceMul, Nat.reduceLeDiff, Nat.le_refl, reduceIte, reduceCtorEq]; (repeat refine ⟨by omega, ?_⟩); refine η _ ?_; clear η κ) | (refine r_nil (hK _ ?_); clear hE hK E K) | refine q_seq ?_ | refine q_blk ?_ | refine q_lpN ?_
            exact ⟨K - (k + 1), by omega, k + 1, rfl, by omega, r, _, _, nf_of rfl ⟨rfl, rfl, rfl, trivial⟩ trivial, e2, hF2.trans e4, by rw [show K - (k + 1) = q by omega]; exact hkf, by omega, m + m2, by rw [e3, hm, List.drop_drop]⟩
          · rintro _ o' ⟨rfl, e1, e2⟩
            rw [e1, Option.bind_none] at hkf
            (try simp only [go_sem, Nat.reduceLT, Nat.reduceEqDiff, Nat.reduceAdd, Nat.reduceMul, Nat.reduceLeDiff, Nat.le_refl, reduceIte, reduceCtorEq]); refine hE.2.2 _ ?_
            repeat' first | refine q_seqP ?_ | refine q_blkP ?_ | refine q_lpP ?_
            exact q_pan ⟨rfl, hun.trans hkf.symm, hF2.trans e2⟩
        · simp only [decide_eq_false_iff_not] at hq
          rw [show K - k = 0 by omega] at hkf
          repeat' first | refine c_exit ?_ | refine q_seqE ?_ | refine q_blkHit ?_ | refine q_lpE ?_
          exact q_endP ⟨rfl, l', hun.trans hkf.symm, g5, ⟨m + 1, by rw [List.drop_succ_cons]; exact hm⟩, hF2⟩
end Go.Proofs.YtfflfmpkjcomgaaDoor
