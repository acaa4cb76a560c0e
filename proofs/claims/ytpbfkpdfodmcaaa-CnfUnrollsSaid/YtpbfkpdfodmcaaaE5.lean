import Derived.Test.YtpbfkpdfodmcaaaE4
namespace Go.Proofs.Ytpbfkpdfodmcaaa
open Go.RowKit
set_option maxRecDepth 100000
set_option linter.unusedSimpArgs false
variable (Hy : World → Prop)
attribute [local irreducible] runM runD cwp seqQ blkQ lpQ retQ
/-- steps, unrolled -/
structure Us where
  v : Int
  f : Nat → Int
  cls : List (List Int)
  rows : List (List Int)
def G.N (g : G) : Nat := 1 + g.ins.toNat + g.next.length + g.ands.length
def unNext (g : G) (u : Us) : Us := ⟨u.v + g.ins + g.ands.length, nextF g (nowA g u.v u.f g.ands.length) g.next.length, u.cls ++ clsA g u.v (nowA g u.v u.f g.ands.length) g.ands.length, u.rows ++ [mk g.N (nowA g u.v u.f g.ands.length)]⟩
def unU (g : G) (begin : List Int) : Nat → Us
  | 0 => ⟨1 + eithN begin, firstF g begin begin.length, [[1]], []⟩
  | k + 1 => unNext g (unU g begin k)
def unrC (g : G) (begin : List Int) (k : Nat) : Cn := ⟨(unU g begin k).v, (unU g begin k).cls, (unU g begin k).rows ++ [mk g.N (unU g begin k).f]⟩
def unrR (g : G) (begin : List Int) (k : Int) : List T := if unCheck g begin k ≠ 0 then [(Cn.mk 0 [] []).t, .i .i64 (unCheck g begin k)] else [(unrC g begin k.toNat).t, .i .i64 0]
theorem unU_v (g : G) (begin : List Int) (k : Nat) : (unU g begin k).v = 1 + eithN begin + k * (g.ins + g.ands.length) := by
  induction k with
  | zero => simp [unU]
  | succ k ih =>
    show (unU g begin k).v + g.ins + g.ands.length = _
    rw [ih, show ((k + 1 : Nat) : Int) = (k : Int) + 1 from rfl, Int.add_mul, Int.one_mul]
    omega
theorem unU_cls (g : G) (begin : List Int) (k : Nat) : (unU g begin k).cls.length = 1 + k * (3 * g.ands.length) := by
  induction k with
  | zero => simp [unU]
  | succ k ih =>
    show ((unU g begin k).cls ++ _).length = _
    rw [List.length_append, ih, clsA_len, Nat.add_mul, Nat.one_mul]
    generalize k * (3 * g.ands.length) = q
    omega
theorem unU_rows (g : G) (begin : List Int) (k : Nat) : (unU g begin k).rows.length = k := by
  induction k with
  | zero => rfl
  | succ k ih =>
    show ((unU g begin k).rows ++ _).length = _
    rw [List.length_append, ih]
    rfl
theorem unCheck_ok {g : G} {begin : List Int} {k : Int} (h : unCheck g begin k = 0) : checkG g = 0 ∧ begin.length = g.next.length ∧ begin.any badB = false ∧ 0 ≤ k ∧ k ≤ 40 ∧ 1 + (eithN begin : Int) + k * (g.ins + g.ands.length) ≤ 20000 := by
  unfold unCheck at h
  split at h
  · rename_i h1; exact absurd h h1
  · rename_i h1
    split at h
    · cases h
    · rename_i h2
      have h2 := not_or.1 h2
      split at h
      · cases h
      · rename_i h3
        refine ⟨by omega, by omega, by simpa using h2.2, by omega, by omega, by omega⟩
theorem gok_of {g : G} (h : checkG g = 0) : GOk g g.N := by
  obtain ⟨⟨h1, h2, h3, h4⟩, hok⟩ := checkG_ok h
  unfold G.top at h3
  refine ⟨h1, by unfold G.N; omega, by unfold G.N; omega, fun j a ha => ?_, fun x hx => ?_⟩
  · obtain ⟨q1, q2⟩ := hok.a j a ha
    have hj := (List.getElem?_eq_some_iff.1 ha).1
    unfold litOk G.first at q1 q2
    replace q1 := of_decide_eq_true q1
    replace q2 := of_decide_eq_true q2
    unfold firstN
    refine ⟨⟨q1.1, ?_, ?_⟩, ⟨q2.1, ?_, ?_⟩⟩ <;> omega
  · have q := hok.n x hx
    unfold litOk G.top at q
    replace q := of_decide_eq_true q
    unfold G.N
    refine ⟨q.1, ?_, ?_⟩ <;> omega
theorem frzE_t {o : Nat → O} {rest : List (List A)} : ∀ (l : List (List Int)) {K : List (List T) → Ups → Prop}, frzE o rest (fun m i => K ((l.map fun c => [iL c]) ++ m) i) → frzE o ((l.map fun c => [A.t (iL c)]) ++ rest) K
  | [], K, h => h
  | c :: l, K, h => by
    show frzC0 o [A.t (iL c)] fun t i => frzE o ((l.map fun c => [A.t (iL c)]) ++ rest) fun ts is => K (t :: ts) (i ++ is)
    exact ⟨rfl, frzE_t l (K := fun ts is => K ([iL c] :: ts) ([] ++ is)) h⟩
theorem frzE_t0 {o : Nat → O} (l : List (List Int)) {K : List (List T) → Ups → Prop} (h : K (l.map fun c => [iL c]) []) : frzE o (l.map fun c => [A.t (iL c)]) K := by
  have := frzE_t (o := o) (rest := []) l (K := K) (by rw [frzE]; rw [List.append_nil]; exact h)
  rwa [List.append_nil] at this
def par (i : Nat) : Nat := if i % 2 = 0 then 10000 else 10001
structure UI (g : G) (nb : Nat) (u : Us) (i : Nat) (n kk g6 : Nat) (oc : Nat → O) : Prop where
  bd : Bd oc nb g u.v u.cls (.row 902 n)
  lt : oc 902 = ⟨n, .rowA 22 1 ((u.rows.map fun r => [A.t (iL r)]) ++ [[.row (par i) kk]])⟩
  rw_ : oc (par i) = ⟨kk, .row 3 1 (iC (mk g.N u.f))⟩
  re : oc 6 = ⟨g6, .cells 48 [.t (.i .i64 0), .nilS, .nilS]⟩
theorem stepU_cm {o : Nat → O} {nb n kk g6 : Nat} {g : G} {u : Us} {i : Nat} (hg : GOk g g.N) (h : UI g nb u i n kk g6 o) (hv : 1 ≤ u.v ∧ u.v ≤ 500000) (hm : u.rows.length ≤ 90) (hcl : u.cls.length ≤ 800000) :
    Cm Try.prog Hy 92 [.ptr 900 nb 0] o fun rs o' => rs = [] ∧ ∃ n' kk', UI g nb (unNext g u) (i + 1) n' kk' g6 o' := by
  obtain ⟨h1, h2, h3, h4⟩ := h
  have fin : ∀ {R R2 n' k' : Nat} {o' : Nat → O}, par (i + 1) = R2 → 6 ∉ [900, 901, 902, R, R2] → Bd o' nb g (u.v + g.ins + g.ands.length) (u.cls ++ clsA g u.v (nowA g u.v u.f g.ands.length) g.ands.length) (.row 902 n') →
      o' 902 = ⟨n', .rowA 22 1 ((u.rows.map fun r => [A.t (iL r)]) ++ [A.t (iL (mk g.N (nowA g u.v u.f g.ands.length)))] :: [[.row R2 k']])⟩ → o' R2 = ⟨k', .row 3 1 (iC (mk g.N (nextF g (nowA g u.v u.f g.ands.length) g.next.length)))⟩ → Fr 1000 o o' [900, 901, 902, R, R2] → UI g nb (unNext g u) (i + 1) n' k' g6 o' := fun e h6 a1 a2 a3 a4 => by
    subst e
    refine ⟨a1, ?_, a3, (a4 6 (.inl (by decide)) h6).trans h4⟩
    rw [a2]
    simp [unNext]
  by_cases hp : i % 2 = 0
  · have e0 : par i = 10000 := if_pos hp
    have e1 : par (i + 1) = 10001 := if_neg (by omega)
    rw [e0] at h2 h3
    refine (step0_cm Hy hg h1 h2 h3 hv (by simpa using hm) hcl).mono ?_
    rintro rs o' ⟨n', k', rfl, a1, a2, a3, a4⟩
    exact ⟨rfl, n', k', fin e1 (by decide) a1 a2 a3 a4⟩
  · have e0 : par i = 10001 := if_neg hp
    have e1 : par (i + 1) = 10000 := if_pos (by omega)
    rw [e0] at h2 h3
    refine (step1_cm Hy hg h1 h2 h3 hv (by simpa using hm) hcl).mono ?_
    rintro rs o' ⟨n', k', rfl, a1, a2, a3, a4⟩
    exact ⟨rfl, n', k', fin e1 (by decide) a1 a2 a3 a4⟩
set_option maxHeartbeats 2000000 in
theorem unroll_ct (g : G) (begin : List Int) (k : Int) (h : g.Small) (hb : begin.length ≤ 140737488355328) : Ct Try.prog Hy 45 [g.t, iL begin, .i .i64 k] (unrR g begin k) := by
  have hck := uncheck_ct Hy g begin k h hb
  refine ct_of (cls := _root_.id) tt_ok follows_ Try.func45 rfl (by decide) (Nat.le_of_ble_eq_true rfl) ?_
  rw [show Try.f45.ntmps = 31 from rfl, s0_nf]
  simp only [List.zipIdx_cons, List.zipIdx_nil, List.map_cons, List.map_nil, Nat.reduceAdd, G.t, iL, pL]
  repeat' first | refine c_seq ?_ | refine c_reg' rfl fun K hK => ?_ | (refine r_opN fun κ η => ?_; simp only [go_sem, Nat.reduceLT, Nat.reduceEqDiff, Nat.reduceAdd, Nat.reduceMul, Nat.reduceLeDiff, Nat.le_refl, reduceIte, reduceCtorEq]; refine η _ ?_; clear η κ) | (refine r_nil (hK _ ?_); clear hK K) | refine q_seq ?_
  refine r_opN fun κ η => ?_; simp only [go_sem, Nat.reduceLT, Nat.reduceEqDiff, Nat.reduceAdd, Nat.reduceMul, Nat.reduceLeDiff, Nat.le_refl, reduceIte, reduceCtorEq, G.t, iL, pL]; refine ⟨_, hck, ?_⟩; simp only [go_sem, Nat.reduceLT, Nat.reduceEqDiff, Nat.reduceAdd, Nat.reduceMul, Nat.reduceLeDiff, Nat.le_refl, reduceIte, reduceCtorEq, G.t, iL, pL]; refine η _ ?_; clear η κ
  repeat' first | refine c_seq ?_ | refine c_reg' rfl fun K hK => ?_ | (refine r_opN fun κ η => ?_; simp only [go_sem, Nat.reduceLT, Nat.reduceEqDiff, Nat.reduceAdd, Nat.reduceMul, Nat.reduceLeDiff, Nat.le_refl, reduceIte, reduceCtorEq]; refine η _ ?_; clear η κ) | (refine r_nil (hK _ ?_); clear hK K) | refine q_seq ?_
  refine c_cond _ rfl (fun hq => ?_) (fun hq => ?_)
  · simp only [Bool.not_eq_true', decide_eq_false_iff_not] at hq
    repeat' first | refine c_seq ?_ | refine c_reg' rfl fun K hK => ?_ | (refine r_opN fun κ η => ?_; simp only [go_sem, Nat.reduceLT, Nat.reduceEqDiff, Nat.reduceAdd, Nat.reduceMul, Nat.reduceLeDiff, Nat.le_refl, reduceIte, reduceCtorEq, unrR, if_pos hq, Cn.t, cL]; refine η _ ?_; clear η κ) | (refine r_nil (hK _ ?_); clear hK K) | refine q_seq ?_ | refine c_ret ?_ | refine q_seqR ?_ | (refine q_ret ?_; refine q_rc ?_; simp only [go_sem, Nat.reduceLT, Nat.reduceEqDiff, Nat.reduceAdd, Nat.reduceMul, Nat.reduceLeDiff, Nat.le_refl, reduceIte, reduceCtorEq, unrR, if_pos hq, Cn.t, cL])
  simp only [Bool.not_eq_false', decide_eq_true_eq] at hq
  obtain ⟨q1, q2, q3, q4, q5, q6⟩ := unCheck_ok hq
  have hg := gok_of q1
  have hle := eithN_le begin
  have hbl : begin.length ≤ 4000 := by have := hg.hN; have := hg.le; have := hg.i0; omega
  rw [unrR, if_neg (not_not_intro hq)]
  repeat' first | refine c_seq ?_ | refine c_reg' rfl fun K hK => ?_ | (refine r_opN fun κ η => ?_; simp only [go_sem, Nat.reduceLT, Nat.reduceEqDiff, Nat.reduceAdd, Nat.reduceMul, Nat.reduceLeDiff, Nat.le_refl, reduceIte, reduceCtorEq]; refine η _ ?_; clear η κ) | refine q_seq ?_ | refine c_skip ?_
  refine r_call fun κ η => ?_; simp only [go_sem, Nat.reduceLT, Nat.reduceEqDiff, Nat.reduceAdd, Nat.reduceMul, Nat.reduceLeDiff, Nat.le_refl, reduceIte, reduceCtorEq, G.cells, iL, pL]; refine ⟨_, newb_cm Hy g begin _ q2 q3 ⟨hg.i0, by have := hg.hN; have := hg.le; omega⟩ hg.hN, ?_⟩; rintro _ o1 ⟨nb, n, kk, rfl, hB, hL, hR, hF⟩; simp only [go_sem, Nat.reduceLT, Nat.reduceEqDiff, Nat.reduceAdd, Nat.reduceMul, Nat.reduceLeDiff, Nat.le_refl, reduceIte, reduceCtorEq, G.cells, iL, pL]; refine η _ ?_; clear η κ
  repeat' first | refine c_seq ?_ | refine c_block ?_ | refine c_reg' rfl fun K hK => ?_ | (refine r_opN fun κ η => ?_; simp only [go_sem, Nat.reduceLT, Nat.reduceEqDiff, Nat.reduceAdd, Nat.reduceMul, Nat.reduceLeDiff, Nat.le_refl, reduceIte, reduceCtorEq]; refine η _ ?_; clear η κ) | (refine r_nil (hK _ ?_); clear hK K) | refine q_seq ?_
  refine c_loop (fun q s' => ∃ i : Nat, q = k.toNat - i ∧ i ≤ k.toNat ∧ ∃ F oc n kk, s' = nf 31 F oc [(6, .ptr 6 1 0), (9, .ptr 900 nb 0), (21, .t (.i .i64 k)), (22, .t (.i .i64 i))] [] ∧ UI g nb (unU g begin i) i n kk 1 oc) k.toNat ?_ ?_
  · refine ⟨0, by omega, by omega, _, _, n, kk, nf_of rfl ⟨rfl, rfl, rfl, rfl, trivial⟩ trivial, ⟨hB, hL, hR, ?_⟩⟩
    exact hF 6 (.inl (by decide)) (by decide)
  clear hB hL hR hF
  rintro q s' ⟨i, rfl, hi, F, oc, n, kk, rfl, hI⟩
  repeat' first | refine c_seq ?_ | refine c_reg' rfl fun K hK => ?_ | (refine r_opN fun κ η => ?_; simp only [go_sem, Nat.reduceLT, Nat.reduceEqDiff, Nat.reduceAdd, Nat.reduceMul, Nat.reduceLeDiff, Nat.le_refl, reduceIte, reduceCtorEq]; refine η _ ?_; clear η κ) | (refine r_nil (hK _ ?_); clear hK K) | refine q_seq ?_
  refine c_cond _ rfl (fun hq2 => ?_) (fun hq2 => ?_)
  · simp only [decide_eq_true_eq] at hq2
    have hvv := unU_v g begin i
    have hm := mul_in (k := (i : Int)) (q := g.ins + g.ands.length) (by omega) ⟨by have := hg.i0; omega, by have := hg.hN; have := hg.le; have := hg.i0; omega⟩
    have hcc := unU_cls g begin i
    have hle2 : i * (3 * g.ands.length) ≤ 40 * 12000 := Nat.mul_le_mul (by omega) (by have := hg.hN; have := hg.le; have := hg.i0; omega)
    repeat' first | refine c_seq ?_ | refine c_block ?_ | refine c_reg' rfl fun K hK => ?_ | (refine r_opN fun κ η => ?_; simp only [go_sem, Nat.reduceLT, Nat.reduceEqDiff, Nat.reduceAdd, Nat.reduceMul, Nat.reduceLeDiff, Nat.le_refl, reduceIte, reduceCtorEq]; refine η _ ?_; clear η κ) | refine q_seq ?_ | refine c_skip ?_
    refine r_call fun κ η => ?_; simp only [go_sem, Nat.reduceLT, Nat.reduceEqDiff, Nat.reduceAdd, Nat.reduceMul, Nat.reduceLeDiff, Nat.le_refl, reduceIte, reduceCtorEq]; refine ⟨_, stepU_cm Hy hg (by exact hI) (by omega) (by rw [unU_rows]; omega) (by omega), ?_⟩; rintro _ o4 ⟨rfl, n4, k4, hI4⟩; simp only [go_sem, Nat.reduceLT, Nat.reduceEqDiff, Nat.reduceAdd, Nat.reduceMul, Nat.reduceLeDiff, Nat.le_refl, reduceIte, reduceCtorEq]; refine η _ ?_; clear η κ
    repeat' first | refine c_reg' rfl fun K hK => ?_ | (refine r_opN fun κ η => ?_; simp only [go_sem, Nat.reduceLT, Nat.reduceEqDiff, Nat.reduceAdd, Nat.reduceMul, Nat.reduceLeDiff, Nat.le_refl, reduceIte, reduceCtorEq]; (repeat refine ⟨by omega, ?_⟩); refine η _ ?_; clear η κ) | (refine r_nil (hK _ ?_); clear hK K) | refine q_seq ?_ | refine q_blk ?_ | refine q_lpN ?_
    exact ⟨k.toNat - (i + 1), by omega, i + 1, rfl, by omega, _, _, n4, k4, nf_of rfl ⟨rfl, rfl, rfl, rfl, trivial⟩ trivial, hI4⟩
  · simp only [decide_eq_false_iff_not] at hq2
    obtain rfl : i = k.toNat := by omega
    obtain ⟨xc, ho, hc⟩ := id hI.bd
    have h6 := hI.re
    have hlt := hI.lt
    have hrw := hI.rw_
    rcases hc with ⟨hc, rfl⟩ | ⟨nc, rfl, hnc⟩
    · have := unU_cls g begin k.toNat
      rw [hc] at this
      simp at this
      omega
    repeat' first | refine c_seq ?_ | refine c_reg' rfl fun K hK => ?_ | (refine r_opN fun κ η => ?_; simp only [go_sem, Nat.reduceLT, Nat.reduceEqDiff, Nat.reduceAdd, Nat.reduceMul, Nat.reduceLeDiff, Nat.le_refl, reduceIte, reduceCtorEq, ho, h6, hnc, hlt]; (repeat refine ⟨by omega, ?_⟩); refine η _ ?_; clear η κ) | (refine r_nil (hK _ ?_); clear hK K) | refine q_seq ?_ | refine c_exit ?_ | refine c_ret ?_ | refine q_seqE ?_ | refine q_blkHit ?_ | refine q_lpE ?_ | (refine q_ret ?_; refine q_rc ?_; simp only [go_sem, Nat.reduceLT, Nat.reduceEqDiff, Nat.reduceAdd, Nat.reduceMul, Nat.reduceLeDiff, Nat.le_refl, reduceIte, reduceCtorEq, ho, h6, hnc, hlt])
    refine frzE_t0 _ (frzE_t _ ⟨rfl, ?_⟩)
    have h6p : ¬ par k.toNat = 6 := by unfold par; split <;> decide
    have hpo : ∀ (x : O), (if par k.toNat = 6 then x else oc (par k.toNat)) = ⟨kk, .row 3 1 (iC (mk g.N (unU g begin k.toNat).f))⟩ := fun x => (if_neg h6p).trans hrw
    simp only [frz0, nf_o, lookO_cons, lookO_nil, hpo, true_and]
    simp only [frzC0, frzE, unrC, Cn.t, cL, List.map_append, List.map_cons, List.map_nil, iL_eq, iC]
end Go.Proofs.Ytpbfkpdfodmcaaa
