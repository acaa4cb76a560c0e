import Derived.Test.YtpbfkpdfodmcaaaG7
namespace Go.Proofs.Ytpbfkpdfodmcaaa
open Go.RowKit
set_option maxRecDepth 100000
set_option linter.unusedSimpArgs false
variable (Hy : World → Prop)
attribute [local irreducible] runM runD cwp seqQ blkQ lpQ retQ asQ bdQ
/-- what is there so far -/
def entS (l : List (Int × Int)) : List (Ky × A) := l.zipIdx.map fun p => (.a .i64 [p.1.1, p.1.2], .t (.i .i64 (p.2 : Int)))
theorem entS_app (l : List (Int × Int)) (a : Int × Int) : entS (l ++ [a]) = entS l ++ [(.a .i64 [a.1, a.2], .t (.i .i64 (l.length : Int)))] := by
  simp [entS, List.zipIdx_append]
theorem entS_keys (l : List (Int × Int)) : (entS l).map (·.1) = l.map fun p => Ky.a .i64 [p.1, p.2] := by
  unfold entS
  rw [List.map_map]
  have : ((fun p : Ky × A => p.1) ∘ fun p : (Int × Int) × Nat => ((.a .i64 [p.1.1, p.1.2], .t (.i .i64 (p.2 : Int))) : Ky × A)) = (fun p : Int × Int => Ky.a .i64 [p.1, p.2]) ∘ Prod.fst := rfl
  rw [this, ← List.map_map, List.zipIdx_map_fst]
theorem key_inj {x y : Int × Int} (h : Ky.a .i64 [x.1, x.2] = Ky.a .i64 [y.1, y.2]) : x = y := by
  injection h with _ e
  injection e with e1 e2
  injection e2 with e2 _
  exact Prod.ext e1 e2
theorem entS_in {l : List (Int × Int)} {x : Int × Int} : Ky.a .i64 [x.1, x.2] ∈ (entS l).map (·.1) ↔ x ∈ l := by
  rw [entS_keys, List.mem_map]
  exact ⟨fun ⟨y, hy, e⟩ => key_inj e ▸ hy, fun h => ⟨x, h, rfl⟩⟩
theorem getM_none {l : List (Ky × A)} {k : Ky} (h : k ∉ l.map (·.1)) : getM l k = none := by
  unfold getM
  rw [Option.map_eq_none_iff, List.find?_eq_none]
  exact fun p hp e => h (List.mem_map.2 ⟨p, hp, of_decide_eq_true e⟩)
theorem getM_some {l : List (Int × Int)} {x : Int × Int} (h : x ∈ l) : ∃ n : Int, getM (entS l) (Ky.a .i64 [x.1, x.2]) = some (.t (.i .i64 n)) := by
  cases hf : (entS l).find? fun p => decide (p.1 = Ky.a .i64 [x.1, x.2]) with
  | none =>
    rw [List.find?_eq_none] at hf
    obtain ⟨p, hp, e⟩ := List.mem_map.1 (entS_in.2 h)
    exact absurd (decide_eq_true e) (hf p hp)
  | some p =>
    have hp := List.mem_of_find?_eq_some hf
    obtain ⟨q, _, rfl⟩ := List.mem_map.1 hp
    refine ⟨(q.2 : Int), ?_⟩
    unfold getM
    rw [hf]
    rfl
theorem bools1 (l : List Bool) : ∀ e ∈ l.map (fun x => [T.b x]), e.length = 1 := fun e he => by
  obtain ⟨x, _, rfl⟩ := List.mem_map.1 he
  rfl
/-- an and that may not stand so -/
def badA (l : List (Int × Int)) (x : Int × Int) : Prop := x ∈ l ∨ x.1 ≤ x.2 ∨ x.2 ≤ 1 ∨ x.1 / 2 = x.2 / 2
instance (l : List (Int × Int)) (x : Int × Int) : Decidable (badA l x) := by unfold badA; infer_instance
def strictP (g : G) : Prop := checkG g = 0 ∧ (∀ (i : Nat) x, g.ands[i]? = some x → ¬ badA (g.ands.take i) x) ∧ ∀ y ∈ (ledL g).drop g.first.toNat, y = true
set_option maxHeartbeats 4000000 in
theorem strict_ct (g : G) (h : g.Small) : ∃ q, (q = true ↔ strictP g) ∧ Ct Try.prog Hy 22 [g.t] [.b q] := by
  refine ⟨@decide (strictP g) (Classical.propDecidable _), by simp, ?_⟩
  obtain ⟨q, hq⟩ : ∃ q, q = @decide (strictP g) (Classical.propDecidable _) := ⟨_, rfl⟩
  rw [← hq]
  have hq' : q = true ↔ strictP g := by rw [hq]; simp
  clear hq
  have hf : ¬ strictP g → q = false := fun hn => by
    cases q with
    | false => rfl
    | true => exact absurd (hq'.1 rfl) hn
  have hck := check_ct Hy g h
  refine ct_of (cls := _root_.id) tt_ok follows_ Try.func22 rfl (by decide) (Nat.le_of_ble_eq_true rfl) ?_
  rw [show Try.f22.ntmps = 59 from rfl, s0_nf]
  simp only [List.zipIdx_cons, List.zipIdx_nil, List.map_cons, List.map_nil, Nat.reduceAdd, G.t, iL, pL]
  repeat' first | refine c_seq ?_ | refine c_reg' rfl fun K hK => ?_ | (refine r_opN fun κ η => ?_; simp only [go_sem, Nat.reduceLT, Nat.reduceEqDiff, Nat.reduceAdd, Nat.reduceMul, Nat.reduceLeDiff, Nat.le_refl, reduceIte, reduceCtorEq]; refine η _ ?_; clear η κ) | (refine r_nil (hK _ ?_); clear hK K) | refine q_seq ?_
  refine r_opN fun κ η => ?_; simp only [go_sem, Nat.reduceLT, Nat.reduceEqDiff, Nat.reduceAdd, Nat.reduceMul, Nat.reduceLeDiff, Nat.le_refl, reduceIte, reduceCtorEq, G.t, iL, pL]; refine ⟨_, hck, ?_⟩; simp only [go_sem, Nat.reduceLT, Nat.reduceEqDiff, Nat.reduceAdd, Nat.reduceMul, Nat.reduceLeDiff, Nat.le_refl, reduceIte, reduceCtorEq, G.t, iL, pL]; refine η _ ?_; clear η κ
  repeat' first | (refine r_opN fun κ η => ?_; simp only [go_sem, Nat.reduceLT, Nat.reduceEqDiff, Nat.reduceAdd, Nat.reduceMul, Nat.reduceLeDiff, Nat.le_refl, reduceIte, reduceCtorEq]; refine η _ ?_; clear η κ) | (refine r_nil (hK _ ?_); clear hK K) | refine q_seq ?_
  refine c_cond _ rfl (fun hq => ?_) (fun hq => ?_)
  · simp only [Bool.not_eq_true', decide_eq_false_iff_not] at hq
    rw [hf fun e => hq e.1]
    repeat' first | refine c_seq ?_ | refine c_reg' rfl fun K hK => ?_ | (refine r_opN fun κ η => ?_; simp only [go_sem, Nat.reduceLT, Nat.reduceEqDiff, Nat.reduceAdd, Nat.reduceMul, Nat.reduceLeDiff, Nat.le_refl, reduceIte, reduceCtorEq]; refine η _ ?_; clear η κ) | (refine r_nil (hK _ ?_); clear hK K) | refine q_seq ?_ | refine c_ret ?_ | refine q_seqR ?_ | (refine q_ret ?_; refine q_r1 ?_; simp only [go_sem, Nat.reduceLT, Nat.reduceEqDiff, Nat.reduceAdd, Nat.reduceMul, Nat.reduceLeDiff, Nat.le_refl, reduceIte, reduceCtorEq])
  simp only [Bool.not_eq_false', decide_eq_true_eq] at hq
  obtain ⟨⟨l1, l2, l3, l4⟩, hok⟩ := checkG_ok hq
  have e1 : g.first = 1 + g.ins + g.next.length := rfl
  have e2 : g.top = g.ins + g.next.length + g.ands.length := rfl
  have hfa := firstAnd_ct Hy g (by omega)
  rw [← e1] at hfa
  have hled := led_ct Hy g hok (by omega)
  have hll := ledL_len g
  have mlaw84 := mlaw84
  repeat' first | refine c_seq ?_ | refine c_block ?_ | refine c_reg' rfl fun K hK => ?_ | (refine r_opN fun κ η => ?_; simp only [go_sem, Nat.reduceLT, Nat.reduceEqDiff, Nat.reduceAdd, Nat.reduceMul, Nat.reduceLeDiff, Nat.le_refl, reduceIte, reduceCtorEq]; (repeat refine ⟨by omega, ?_⟩); refine η _ ?_; clear η κ) | (refine r_nil (hK _ ?_); clear hK K) | refine q_seq ?_ | refine c_skip ?_
  refine c_loop (fun m s' => ∃ i : Nat, m = g.ands.length - i ∧ i ≤ g.ands.length ∧ (∀ (j : Nat) x, j < i → g.ands[j]? = some x → ¬ badA (g.ands.take j) x) ∧ ∃ F G0, s' = nf 59 F G0 [(1, .ptr 1 1 0), (3, .row 11 1), (13, .t (pL g.ands)), (14, .t (.i .i64 g.ands.length)), (15, .t (.i .i64 i))] [(11, ⟨1, .map (.arr .i64 2) (entS (g.ands.take i))⟩), (1, ⟨1, .cells 25 g.cells⟩)]) (g.ands.length) ?_ ?_
  · exact ⟨0, by omega, by omega, fun j x hj => absurd hj (Nat.not_lt_zero j), _, _, nf_of rfl ⟨rfl, rfl, rfl, rfl, rfl, trivial⟩ ⟨rfl, rfl, trivial⟩⟩
  rintro m s' ⟨i, rfl, hi, hno, F, G0, rfl⟩
  simp only [pL, G.cells, iL]
  repeat' first | refine c_seq ?_ | refine c_reg' rfl fun K hK => ?_ | (refine r_opN fun κ η => ?_; simp only [go_sem, Nat.reduceLT, Nat.reduceEqDiff, Nat.reduceAdd, Nat.reduceMul, Nat.reduceLeDiff, Nat.le_refl, reduceIte, reduceCtorEq]; refine η _ ?_; clear η κ) | (refine r_nil (hK _ ?_); clear hK K) | refine q_seq ?_
  refine c_cond _ rfl (fun hq2 => ?_) (fun hq2 => ?_)
  · simp only [decide_eq_true_eq] at hq2
    obtain ⟨x, hx⟩ : ∃ x, g.ands[i]? = some x := ⟨_, List.getElem?_eq_getElem (by omega)⟩
    obtain ⟨⟨x1, x2⟩, x3, x4⟩ := hok.aok l1 i x hx
    have q1 := Int.tdiv_eq_ediv_of_nonneg x1 (b := 2)
    have q2 := Int.tdiv_eq_ediv_of_nonneg x3 (b := 2)
    have hky : Ky.ok (KS.arr IntKind.i64 2) (Ky.a IntKind.i64 [x.1, x.2]) := ⟨rfl, rfl, fun z hz => by
      simp only [List.mem_cons, List.not_mem_nil, or_false] at hz
      simp only [inR]
      omega⟩
    have hbad : badA (g.ands.take i) x → q = false := fun hb => hf fun e => e.2.1 i x hx hb
    by_cases c0 : x ∈ g.ands.take i
    · obtain ⟨n, hget⟩ := getM_some c0
      rw [hbad (.inl c0)]
      repeat' first | refine c_seq ?_ | refine c_block ?_ | refine c_reg' rfl fun K hK => ?_ | ((first | refine r_opN fun κ η => ?_ | refine r_opG rfl fun κ η => ?_); simp only [go_sem, Nat.reduceLT, Nat.reduceEqDiff, Nat.reduceAdd, Nat.reduceMul, Nat.reduceLeDiff, Nat.le_refl, reduceIte, reduceCtorEq, hx, hget]; (repeat refine ⟨by omega, ?_⟩); refine η _ ?_; clear η κ) | (refine r_nil (hK _ ?_); clear hK K) | refine q_seq ?_ | refine c_skip ?_
      refine c_cond _ rfl (fun hq3 => ?_) (fun hq3 => (by cases hq3))
      repeat' first | refine c_seq ?_ | refine c_reg' rfl fun K hK => ?_ | (refine r_opN fun κ η => ?_; simp only [go_sem, Nat.reduceLT, Nat.reduceEqDiff, Nat.reduceAdd, Nat.reduceMul, Nat.reduceLeDiff, Nat.le_refl, reduceIte, reduceCtorEq]; refine η _ ?_; clear η κ) | (refine r_nil (hK _ ?_); clear hK K) | refine q_seq ?_ | refine c_ret ?_ | refine q_seqR ?_ | refine q_blkR ?_ | refine q_lpR ?_ | (refine q_ret ?_; refine q_r1 ?_; simp only [go_sem, Nat.reduceLT, Nat.reduceEqDiff, Nat.reduceAdd, Nat.reduceMul, Nat.reduceLeDiff, Nat.le_refl, reduceIte, reduceCtorEq])
    have hget := getM_none (mt entS_in.1 c0)
    by_cases c1 : x.1 ≤ x.2
    · rw [hbad (.inr (.inl c1))]
      repeat' first | refine c_seq ?_ | refine c_block ?_ | refine c_reg' rfl fun K hK => ?_ | ((first | refine r_opN fun κ η => ?_ | refine r_opG rfl fun κ η => ?_); simp only [go_sem, Nat.reduceLT, Nat.reduceEqDiff, Nat.reduceAdd, Nat.reduceMul, Nat.reduceLeDiff, Nat.le_refl, reduceIte, reduceCtorEq, hx, hget, c1]; (repeat refine ⟨by omega, ?_⟩); refine η _ ?_; clear η κ) | (refine r_nil (hK _ ?_); clear hK K) | refine q_seq ?_ | refine c_skip ?_
      refine c_cond _ rfl (fun hq3 => ?_) (fun hq3 => (by cases hq3))
      repeat' first | refine c_seq ?_ | refine c_reg' rfl fun K hK => ?_ | (refine r_opN fun κ η => ?_; simp only [go_sem, Nat.reduceLT, Nat.reduceEqDiff, Nat.reduceAdd, Nat.reduceMul, Nat.reduceLeDiff, Nat.le_refl, reduceIte, reduceCtorEq]; refine η _ ?_; clear η κ) | (refine r_nil (hK _ ?_); clear hK K) | refine q_seq ?_ | refine c_ret ?_ | refine q_seqR ?_ | refine q_blkR ?_ | refine q_lpR ?_ | (refine q_ret ?_; refine q_r1 ?_; simp only [go_sem, Nat.reduceLT, Nat.reduceEqDiff, Nat.reduceAdd, Nat.reduceMul, Nat.reduceLeDiff, Nat.le_refl, reduceIte, reduceCtorEq])
    by_cases c2 : x.2 ≤ 1
    · rw [hbad (.inr (.inr (.inl c2)))]
      repeat' first | refine c_seq ?_ | refine c_block ?_ | refine c_reg' rfl fun K hK => ?_ | ((first | refine r_opN fun κ η => ?_ | refine r_opG rfl fun κ η => ?_); simp only [go_sem, Nat.reduceLT, Nat.reduceEqDiff, Nat.reduceAdd, Nat.reduceMul, Nat.reduceLeDiff, Nat.le_refl, reduceIte, reduceCtorEq, hx, hget, c1, c2]; (repeat refine ⟨by omega, ?_⟩); refine η _ ?_; clear η κ) | (refine r_nil (hK _ ?_); clear hK K) | refine q_seq ?_ | refine c_skip ?_
      refine c_cond _ rfl (fun hq3 => ?_) (fun hq3 => (by cases hq3))
      repeat' first | refine c_seq ?_ | refine c_reg' rfl fun K hK => ?_ | (refine r_opN fun κ η => ?_; simp only [go_sem, Nat.reduceLT, Nat.reduceEqDiff, Nat.reduceAdd, Nat.reduceMul, Nat.reduceLeDiff, Nat.le_refl, reduceIte, reduceCtorEq]; refine η _ ?_; clear η κ) | (refine r_nil (hK _ ?_); clear hK K) | refine q_seq ?_ | refine c_ret ?_ | refine q_seqR ?_ | refine q_blkR ?_ | refine q_lpR ?_ | (refine q_ret ?_; refine q_r1 ?_; simp only [go_sem, Nat.reduceLT, Nat.reduceEqDiff, Nat.reduceAdd, Nat.reduceMul, Nat.reduceLeDiff, Nat.le_refl, reduceIte, reduceCtorEq])
    by_cases c3 : x.1 / 2 = x.2 / 2
    · rw [hbad (.inr (.inr (.inr c3)))]
      repeat' first | refine c_seq ?_ | refine c_block ?_ | refine c_reg' rfl fun K hK => ?_ | ((first | refine r_opN fun κ η => ?_ | refine r_opG rfl fun κ η => ?_); simp only [go_sem, Nat.reduceLT, Nat.reduceEqDiff, Nat.reduceAdd, Nat.reduceMul, Nat.reduceLeDiff, Nat.le_refl, reduceIte, reduceCtorEq, hx, hget, c1, c2, q1, q2, c3]; (repeat refine ⟨by omega, ?_⟩); refine η _ ?_; clear η κ) | (refine r_nil (hK _ ?_); clear hK K) | refine q_seq ?_ | refine c_skip ?_
      refine c_cond _ rfl (fun hq3 => ?_) (fun hq3 => (by cases hq3))
      repeat' first | refine c_seq ?_ | refine c_reg' rfl fun K hK => ?_ | (refine r_opN fun κ η => ?_; simp only [go_sem, Nat.reduceLT, Nat.reduceEqDiff, Nat.reduceAdd, Nat.reduceMul, Nat.reduceLeDiff, Nat.le_refl, reduceIte, reduceCtorEq]; refine η _ ?_; clear η κ) | (refine r_nil (hK _ ?_); clear hK K) | refine q_seq ?_ | refine c_ret ?_ | refine q_seqR ?_ | refine q_blkR ?_ | refine q_lpR ?_ | (refine q_ret ?_; refine q_r1 ?_; simp only [go_sem, Nat.reduceLT, Nat.reduceEqDiff, Nat.reduceAdd, Nat.reduceMul, Nat.reduceLeDiff, Nat.le_refl, reduceIte, reduceCtorEq])
    have hput : ∀ v : A, putM (entS (g.ands.take i)) (Ky.a .i64 [x.1, x.2]) v = entS (g.ands.take i) ++ [(Ky.a .i64 [x.1, x.2], v)] := fun v => by
      unfold putM
      rw [if_neg (mt entS_in.1 c0)]
    repeat' first | refine c_seq ?_ | refine c_block ?_ | refine c_reg' rfl fun K hK => ?_ | ((first | refine r_opN fun κ η => ?_ | refine r_opG rfl fun κ η => ?_); simp only [go_sem, Nat.reduceLT, Nat.reduceEqDiff, Nat.reduceAdd, Nat.reduceMul, Nat.reduceLeDiff, Nat.le_refl, reduceIte, reduceCtorEq, hx, hget, c1, c2, q1, q2, c3]; (repeat refine ⟨by omega, ?_⟩); refine η _ ?_; clear η κ) | (refine r_nil (hK _ ?_); clear hK K) | refine q_seq ?_ | refine c_skip ?_
    refine c_cond _ rfl (fun hq3 => (by cases hq3)) (fun hq3 => ?_)
    repeat' first | refine c_reg' rfl fun K hK => ?_ | (refine r_opN fun κ η => ?_; simp only [go_sem, Nat.reduceLT, Nat.reduceEqDiff, Nat.reduceAdd, Nat.reduceMul, Nat.reduceLeDiff, Nat.le_refl, reduceIte, reduceCtorEq, hput]; (repeat refine ⟨by omega, ?_⟩); refine η _ ?_; clear η κ) | (refine r_nil (hK _ ?_); clear hK K) | refine q_seq ?_ | refine q_blk ?_ | refine c_skip ?_ | refine q_lpN ?_
    have hs : g.ands.take (i + 1) = g.ands.take i ++ [x] := by rw [List.take_add_one, hx]; rfl
    have he : entS (g.ands.take (i + 1)) = entS (g.ands.take i) ++ [(.a .i64 [x.1, x.2], .t (.i .i64 (i : Int)))] := by
      rw [hs, entS_app, List.length_take, show min i g.ands.length = i by omega]
    refine ⟨g.ands.length - (i + 1), by omega, i + 1, rfl, by omega, fun j y hj hy => ?_, _, _, nf_of rfl ⟨rfl, rfl, rfl, rfl, rfl, trivial⟩ ⟨by rw [he]; rfl, rfl, trivial⟩⟩
    rcases Nat.lt_or_eq_of_le (Nat.lt_succ_iff.1 hj) with h | rfl
    · exact hno j y h hy
    · rw [hx] at hy
      cases hy
      rintro (e | e | e | e)
      · exact c0 e
      · exact c1 e
      · exact c2 e
      · exact c3 e
  simp only [decide_eq_false_iff_not] at hq2
  obtain rfl : i = g.ands.length := by omega
  have hqe : q = !((ledL g).drop g.first.toNat).any fun x => false == x := by
    by_cases hs : strictP g
    · rw [hq'.2 hs]
      have : (((ledL g).drop g.first.toNat).any fun x => false == x) = false := List.any_eq_false.2 fun x hx => by rw [hs.2.2 x hx]; decide
      rw [this]
      rfl
    · rw [hf hs]
      cases ha : ((ledL g).drop g.first.toNat).any fun x => false == x with
      | true => rfl
      | false =>
        refine absurd ⟨hq, fun i x hx => hno i x (List.getElem?_eq_some_iff.1 hx).1 hx, fun y hy => ?_⟩ hs
        have := List.any_eq_false.1 ha y hy
        cases y with
        | true => rfl
        | false => exact absurd rfl this
  rw [hqe]
  clear hqe hq' hf
  generalize ledL g = M at hled hll ⊢
  have hz1 := eq_true (bools1 M)
  have hct := containsB_ct Hy (M.drop g.first.toNat) false (by rw [List.length_drop]; omega)
  have hdr : (List.drop g.first.toNat (M.map fun x => [T.b x])).take ((M.length : Int) - g.first).toNat = (M.drop g.first.toNat).map fun x => [T.b x] := by
    rw [← List.map_drop]
    refine List.take_of_length_le ?_
    rw [List.length_map, List.length_drop]
    omega
  repeat' first | refine c_seq ?_ | refine c_draw' rfl (by kernel_rfl) fun K hK => ?_ | (refine d_opN (by kernel_rfl) fun κ η => ?_; simp only [go_sem, Nat.reduceLT, Nat.reduceEqDiff, Nat.reduceAdd, Nat.reduceMul, Nat.reduceLeDiff, Nat.le_refl, reduceIte, reduceCtorEq]; refine η _ ?_; clear η κ) | refine q_seq ?_ | refine c_exit ?_ | refine q_seqE ?_ | refine q_blkHit ?_ | refine q_lpE ?_
  refine d_opN (by kernel_rfl) fun κ η => ?_; simp only [go_sem, Nat.reduceLT, Nat.reduceEqDiff, Nat.reduceAdd, Nat.reduceMul, Nat.reduceLeDiff, Nat.le_refl, reduceIte, reduceCtorEq, G.t, iL, pL, bL]; refine ⟨_, hled, ?_⟩; simp only [go_sem, Nat.reduceLT, Nat.reduceEqDiff, Nat.reduceAdd, Nat.reduceMul, Nat.reduceLeDiff, Nat.le_refl, reduceIte, reduceCtorEq, G.t, iL, pL, bL]; refine η _ ?_; clear η κ
  repeat' (refine d_opN (by kernel_rfl) fun κ η => ?_; simp only [go_sem, Nat.reduceLT, Nat.reduceEqDiff, Nat.reduceAdd, Nat.reduceMul, Nat.reduceLeDiff, Nat.le_refl, reduceIte, reduceCtorEq]; refine η _ ?_; clear η κ)
  refine d_opN (by kernel_rfl) fun κ η => ?_; simp only [go_sem, Nat.reduceLT, Nat.reduceEqDiff, Nat.reduceAdd, Nat.reduceMul, Nat.reduceLeDiff, Nat.le_refl, reduceIte, reduceCtorEq, G.t, iL, pL]; refine ⟨_, hfa, ?_⟩; simp only [go_sem, Nat.reduceLT, Nat.reduceEqDiff, Nat.reduceAdd, Nat.reduceMul, Nat.reduceLeDiff, Nat.le_refl, reduceIte, reduceCtorEq, G.t, iL, pL]; refine η _ ?_; clear η κ
  repeat' (refine d_opN (by kernel_rfl) fun κ η => ?_; simp only [go_sem, Nat.reduceLT, Nat.reduceEqDiff, Nat.reduceAdd, Nat.reduceMul, Nat.reduceLeDiff, Nat.le_refl, reduceIte, reduceCtorEq, hz1, hdr]; (repeat refine ⟨by omega, ?_⟩); refine η _ ?_; clear η κ)
  refine d_opN (by kernel_rfl) fun κ η => ?_; simp only [go_sem, Nat.reduceLT, Nat.reduceEqDiff, Nat.reduceAdd, Nat.reduceMul, Nat.reduceLeDiff, Nat.le_refl, reduceIte, reduceCtorEq, bL]; refine ⟨_, hct, ?_⟩; simp only [go_sem, Nat.reduceLT, Nat.reduceEqDiff, Nat.reduceAdd, Nat.reduceMul, Nat.reduceLeDiff, Nat.le_refl, reduceIte, reduceCtorEq, bL]; refine η _ ?_; clear η κ
  repeat' first | (refine d_opN (by kernel_rfl) fun κ η => ?_; simp only [go_sem, Nat.reduceLT, Nat.reduceEqDiff, Nat.reduceAdd, Nat.reduceMul, Nat.reduceLeDiff, Nat.le_refl, reduceIte, reduceCtorEq]; refine η _ ?_; clear η κ) | refine q_seq ?_ | (refine d_nil (hK _ ?_); clear hK K) | refine c_ret ?_ | (refine q_ret ?_; refine q_r1 ?_; simp only [go_sem, Nat.reduceLT, Nat.reduceEqDiff, Nat.reduceAdd, Nat.reduceMul, Nat.reduceLeDiff, Nat.le_refl, reduceIte, reduceCtorEq])
end Go.Proofs.Ytpbfkpdfodmcaaa
