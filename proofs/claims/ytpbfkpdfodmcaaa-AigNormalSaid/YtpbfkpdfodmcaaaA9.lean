import Derived.Test.YtpbfkpdfodmcaaaA7
namespace Go.Proofs.Ytpbfkpdfodmcaaa
open Go.RowKit
set_option maxRecDepth 100000
set_option linter.unusedSimpArgs false
variable (Hy : World → Prop)
attribute [local irreducible] runM runD cwp seqQ blkQ lpQ retQ
/-- a new row is told: at this id, of these elements; else objects are as they were -/
def NewRow (id : Nat) (e : TypeId) (l : List (List T)) (o : Nat → O) (rs : List A) (o' : Nat → O) : Prop := ∃ g, rs = [.row id g] ∧ o' id = ⟨g, .row e 1 l⟩ ∧ ∀ i, i < 1000 → o' i = o i
theorem grow_cm (n : Int) (hn : 0 < n ∧ n ≤ 1000000) (o : Nat → O) : Cm Try.prog Hy 103 [.nilS, .t (.i .i64 n)] o fun rs o' => ∃ g, rs = [.row 2022 g] ∧ o' 2022 = ⟨g, .row 4 1 []⟩ ∧ ∀ i, i < 2000 → o' i = o i := by
  obtain ⟨h1, h2⟩ := hn
  refine cm_of (cls := fun d => 2000 + d) tt_ok follows_ Try.func103 rfl (by decide) (Nat.le_of_ble_eq_true rfl) ?_
  rw [show Try.f103.ntmps = 27 from rfl, s0_nf]
  simp only [List.zipIdx_cons, List.zipIdx_nil, List.map_cons, List.map_nil, Nat.reduceAdd]
  repeat' first | refine c_seq ?_ | refine c_reg' rfl fun K hK => ?_ | (refine r_opN fun κ η => ?_; simp only [go_sem, Nat.reduceLT, Nat.reduceEqDiff, Nat.reduceAdd, Nat.reduceMul, Nat.reduceLeDiff, Nat.le_refl, reduceIte, reduceCtorEq]; refine η _ ?_; clear η κ) | (refine r_nil (hK _ ?_); clear hK K) | refine q_seq ?_
  refine c_cond _ rfl (fun hq => ?_) (fun hq => ?_)
  · simp only [decide_eq_true_eq] at hq
    omega
  repeat' first | refine c_seq ?_ | refine c_reg' rfl fun K hK => ?_ | (refine r_opN fun κ η => ?_; simp only [go_sem, Nat.reduceLT, Nat.reduceEqDiff, Nat.reduceAdd, Nat.reduceMul, Nat.reduceLeDiff, Nat.le_refl, reduceIte, reduceCtorEq]; (repeat refine ⟨by omega, ?_⟩); refine η _ ?_; clear η κ) | (refine r_nil (hK _ ?_); clear hK K) | refine q_seq ?_ | refine c_skip ?_
  refine c_cond _ rfl (fun hq => ?_) (fun hq => ?_)
  · repeat' first | refine c_seq ?_ | refine c_reg' rfl fun K hK => ?_ | (refine r_opN fun κ η => ?_; simp only [go_sem, Nat.reduceLT, Nat.reduceEqDiff, Nat.reduceAdd, Nat.reduceMul, Nat.reduceLeDiff, Nat.le_refl, reduceIte, reduceCtorEq]; (repeat refine ⟨by (first | omega | exact ⟨_, rfl⟩ | exact ⟨_, rfl, rfl⟩), ?_⟩); refine η _ ?_; clear η κ) | (refine r_nil (hK _ ?_); clear hK K) | refine q_seq ?_ | refine c_ret ?_ | (refine q_ret ?_; refine q_r1 ?_; simp only [go_sem, Nat.reduceLT, Nat.reduceEqDiff, Nat.reduceAdd, Nat.reduceMul, Nat.reduceLeDiff, Nat.le_refl, reduceIte, reduceCtorEq])
    exact ⟨_, rfl, rfl, fun i hi => by rw [if_neg (by omega), if_neg (by omega)]⟩
  · simp only [decide_eq_false_iff_not] at hq
    omega
/-- a value that tells this data -/
def IsL (o : Nat → O) (e : TypeId) (l : List (List T)) (x : A) : Prop := x = .t (.sl l) ∨ ∃ id g, x = .row id g ∧ o id = ⟨g, .row e 1 l⟩ ∧ id < 1000
/-- slices joined: a new row -/
theorem concat_cm (ls : List (List (List T))) (xs : List A) (o : Nat → O) {id g : Nat} (hid : id < 1000) (ho : o id = ⟨g, .rowA 33 1 (xs.map fun x => [x])⟩) (hl : xs.length = ls.length)
    (hx : ∀ (k : Nat) x l, xs[k]? = some x → ls[k]? = some l → IsL o 4 l x ∧ (∀ e ∈ l, e.length = 1)) (hn : 0 < ls.flatten.length ∧ ls.flatten.length ≤ 1000000) (hz : ls.length ≤ 1000) :
    Cm Try.prog Hy 74 [.row id g] o (NewRow 2022 4 ls.flatten o) := by
  refine cm_of (cls := fun d => 1000 + d) tt_ok follows_ Try.func74 rfl (by decide) (Nat.le_of_ble_eq_true rfl) ?_
  rw [show Try.f74.ntmps = 36 from rfl, s0_nf]
  simp only [List.zipIdx_cons, List.zipIdx_nil, List.map_cons, List.map_nil, Nat.reduceAdd]
  repeat' first | refine c_seq ?_ | refine c_block ?_ | refine c_reg' rfl fun K hK => ?_ | (refine r_opN fun κ η => ?_; simp only [go_sem, Nat.reduceLT, Nat.reduceEqDiff, Nat.reduceAdd, Nat.reduceMul, Nat.reduceLeDiff, Nat.le_refl, reduceIte, reduceCtorEq, ho]; refine η _ ?_; clear η κ) | (refine r_nil (hK _ ?_); clear hK K) | refine q_seq ?_
  refine c_loop (fun m s' => ∃ k, m = xs.length - k ∧ k ≤ xs.length ∧ ∃ F, s' = nf 36 F o [(3, .t (.i .i64 (ls.take k).flatten.length)), (9, .row id g), (10, .t (.i .i64 xs.length)), (11, .t (.i .i64 k)), (0, .row id g)] []) xs.length ?_ ?_
  · exact ⟨0, by omega, by omega, _, nf_of rfl ⟨rfl, rfl, rfl, rfl, rfl, trivial⟩ trivial⟩
  rintro m s' ⟨k, rfl, hk, F, rfl⟩
  repeat' first | refine c_seq ?_ | refine c_reg' rfl fun K hK => ?_ | (refine r_opN fun κ η => ?_; simp only [go_sem, Nat.reduceLT, Nat.reduceEqDiff, Nat.reduceAdd, Nat.reduceMul, Nat.reduceLeDiff, Nat.le_refl, reduceIte, reduceCtorEq, ho]; refine η _ ?_; clear η κ) | (refine r_nil (hK _ ?_); clear hK K) | refine q_seq ?_
  refine c_cond _ rfl (fun hq => ?_) (fun hq => ?_)
  · simp only [decide_eq_true_eq] at hq
    obtain ⟨x, hxx⟩ : ∃ x, xs[k]? = some x := ⟨_, List.getElem?_eq_getElem (by omega)⟩
    obtain ⟨l, hll⟩ : ∃ l, ls[k]? = some l := ⟨_, List.getElem?_eq_getElem (by omega)⟩
    obtain ⟨hL, hz1⟩ := hx k x l hxx hll
    have hs : (ls.take (k + 1)).flatten.length = (ls.take k).flatten.length + l.length := by
      rw [List.take_add_one, hll]
      simp
    have hle : ls.flatten.length = (ls.take (k + 1)).flatten.length + (ls.drop (k + 1)).flatten.length := by
      rw [← List.length_append, ← List.flatten_append, List.take_append_drop]
    rcases hL with rfl | ⟨id', g', rfl, ho', _⟩
    · repeat' first | refine c_seq ?_ | refine c_block ?_ | refine c_reg' rfl fun K hK => ?_ | (refine r_opN fun κ η => ?_; simp only [go_sem, Nat.reduceLT, Nat.reduceEqDiff, Nat.reduceAdd, Nat.reduceMul, Nat.reduceLeDiff, Nat.le_refl, reduceIte, reduceCtorEq, ho, hxx]; (repeat refine ⟨by omega, ?_⟩); refine η _ ?_; clear η κ) | (refine r_nil (hK _ ?_); clear hK K) | refine q_seq ?_ | refine c_skip ?_
      refine c_cond _ rfl (fun hq2 => ?_) (fun hq2 => ?_)
      · simp only [decide_eq_true_eq] at hq2
        omega
      · repeat' first | refine c_reg' rfl fun K hK => ?_ | (refine r_opN fun κ η => ?_; simp only [go_sem, Nat.reduceLT, Nat.reduceEqDiff, Nat.reduceAdd, Nat.reduceMul, Nat.reduceLeDiff, Nat.le_refl, reduceIte, reduceCtorEq, ho, hxx]; (repeat refine ⟨by omega, ?_⟩); refine η _ ?_; clear η κ) | (refine r_nil (hK _ ?_); clear hK K) | refine q_seq ?_ | refine q_blk ?_ | refine c_skip ?_ | refine q_lpN ?_
        exact ⟨xs.length - (k + 1), by omega, k + 1, rfl, by omega, _, nf_of rfl ⟨by rw [hs, Int.natCast_add]; rfl, rfl, rfl, rfl, rfl, trivial⟩ trivial⟩
    · repeat' first | refine c_seq ?_ | refine c_block ?_ | refine c_reg' rfl fun K hK => ?_ | (refine r_opN fun κ η => ?_; simp only [go_sem, Nat.reduceLT, Nat.reduceEqDiff, Nat.reduceAdd, Nat.reduceMul, Nat.reduceLeDiff, Nat.le_refl, reduceIte, reduceCtorEq, ho, hxx, ho']; (repeat refine ⟨by omega, ?_⟩); refine η _ ?_; clear η κ) | (refine r_nil (hK _ ?_); clear hK K) | refine q_seq ?_ | refine c_skip ?_
      refine c_cond _ rfl (fun hq2 => ?_) (fun hq2 => ?_)
      · simp only [decide_eq_true_eq] at hq2
        omega
      · repeat' first | refine c_reg' rfl fun K hK => ?_ | (refine r_opN fun κ η => ?_; simp only [go_sem, Nat.reduceLT, Nat.reduceEqDiff, Nat.reduceAdd, Nat.reduceMul, Nat.reduceLeDiff, Nat.le_refl, reduceIte, reduceCtorEq, ho, hxx, ho']; (repeat refine ⟨by omega, ?_⟩); refine η _ ?_; clear η κ) | (refine r_nil (hK _ ?_); clear hK K) | refine q_seq ?_ | refine q_blk ?_ | refine c_skip ?_ | refine q_lpN ?_
        exact ⟨xs.length - (k + 1), by omega, k + 1, rfl, by omega, _, nf_of rfl ⟨by rw [hs, Int.natCast_add]; rfl, rfl, rfl, rfl, rfl, trivial⟩ trivial⟩
  simp only [decide_eq_false_iff_not] at hq
  have hkl : k = ls.length := by omega
  subst hkl
  rw [List.take_length]
  repeat' first | refine c_seq ?_ | refine c_reg' rfl fun K hK => ?_ | (refine r_opN fun κ η => ?_; simp only [go_sem, Nat.reduceLT, Nat.reduceEqDiff, Nat.reduceAdd, Nat.reduceMul, Nat.reduceLeDiff, Nat.le_refl, reduceIte, reduceCtorEq, ho]; refine η _ ?_; clear η κ) | refine q_seq ?_ | refine c_exit ?_ | refine q_seqE ?_ | refine q_blkHit ?_ | refine q_lpE ?_
  refine r_call (fun K' hK' => ?_)
  simp only [go_sem, Nat.reduceLT, Nat.reduceEqDiff, Nat.reduceAdd, Nat.reduceMul, Nat.reduceLeDiff, reduceIte, reduceCtorEq]
  refine ⟨_, grow_cm Hy _ (by omega) o, ?_⟩
  rintro _ o2 ⟨g2, rfl, hg2, hsame⟩
  simp only [go_sem, Nat.reduceLT, Nat.reduceEqDiff, Nat.reduceAdd, Nat.reduceMul, Nat.reduceLeDiff, reduceIte, reduceCtorEq]
  refine hK' _ ?_
  clear hK' K'
  have ho2 : o2 id = ⟨g, .rowA 33 1 (xs.map fun x => [x])⟩ := by rw [hsame id (by omega)]; exact ho
  repeat' first | refine c_seq ?_ | refine c_block ?_ | refine c_reg' rfl fun K hK => ?_ | (refine r_opN fun κ η => ?_; simp only [go_sem, Nat.reduceLT, Nat.reduceEqDiff, Nat.reduceAdd, Nat.reduceMul, Nat.reduceLeDiff, Nat.le_refl, reduceIte, reduceCtorEq, ho2]; refine η _ ?_; clear η κ) | (refine r_nil (hK _ ?_); clear hK K) | refine q_seq ?_
  refine c_loop (fun m s' => ∃ k, m = xs.length - k ∧ k ≤ xs.length ∧ ∃ F G0 gk, (∀ i, i < 1000 → G0 i = o i) ∧ s' = nf 36 F G0 [(6, .row 2022 gk), (25, .row id g), (26, .t (.i .i64 xs.length)), (27, .t (.i .i64 k))] [(2022, ⟨gk, .row 4 1 (ls.take k).flatten⟩)]) xs.length ?_ ?_
  · exact ⟨0, by omega, by omega, _, _, g2, fun i hi => hsame i (by omega), nf_of rfl ⟨rfl, rfl, rfl, rfl, trivial⟩ ⟨hg2, trivial⟩⟩
  rintro m s' ⟨k, rfl, hk, F, G0, gk, hG, rfl⟩
  have ho3 : G0 id = ⟨g, .rowA 33 1 (xs.map fun x => [x])⟩ := by rw [hG id hid]; exact ho
  have hne : ¬ id = 2022 := by omega
  repeat' first | refine c_seq ?_ | refine c_reg' rfl fun K hK => ?_ | (refine r_opN fun κ η => ?_; simp only [go_sem, Nat.reduceLT, Nat.reduceEqDiff, Nat.reduceAdd, Nat.reduceMul, Nat.reduceLeDiff, Nat.le_refl, reduceIte, reduceCtorEq, ho3, hne]; refine η _ ?_; clear η κ) | (refine r_nil (hK _ ?_); clear hK K) | refine q_seq ?_
  refine c_cond _ rfl (fun hq => ?_) (fun hq => ?_)
  · simp only [decide_eq_true_eq] at hq
    obtain ⟨x, hxx⟩ : ∃ x, xs[k]? = some x := ⟨_, List.getElem?_eq_getElem (by omega)⟩
    obtain ⟨l, hll⟩ : ∃ l, ls[k]? = some l := ⟨_, List.getElem?_eq_getElem (by omega)⟩
    obtain ⟨hL, hz1⟩ := hx k x l hxx hll
    have hz2 : (∀ e ∈ l, e.length = 1) = True := eq_true hz1
    have hs2 : (ls.take (k + 1)).flatten = (ls.take k).flatten ++ l := by
      rw [List.take_add_one, hll]
      simp
    have hs : (ls.take (k + 1)).flatten.length = (ls.take k).flatten.length + l.length := by rw [hs2, List.length_append]
    have hle : ls.flatten.length = (ls.take (k + 1)).flatten.length + (ls.drop (k + 1)).flatten.length := by
      rw [← List.length_append, ← List.flatten_append, List.take_append_drop]
    rcases hL with rfl | ⟨id', g', rfl, ho', hi'⟩
    · repeat' first | refine c_seq ?_ | refine c_block ?_ | refine c_reg' rfl fun K hK => ?_ | (refine r_opN fun κ η => ?_; simp only [go_sem, Nat.reduceLT, Nat.reduceEqDiff, Nat.reduceAdd, Nat.reduceMul, Nat.reduceLeDiff, Nat.le_refl, reduceIte, reduceCtorEq, ho3, hxx, hne, hz2]; (repeat refine ⟨by omega, ?_⟩); refine η _ ?_; clear η κ) | (refine r_nil (hK _ ?_); clear hK K) | refine q_seq ?_ | refine q_blk ?_ | refine c_skip ?_ | refine q_lpN ?_
      refine ⟨xs.length - (k + 1), by omega, k + 1, rfl, by omega, _, _, _, ?_, nf_of rfl ⟨rfl, rfl, rfl, rfl, trivial⟩ ⟨by rw [hs2]; rfl, trivial⟩⟩
      intro i hi
      rw [nf_o]
      simp only [lookO_cons, lookO_nil, if_neg (show ¬ i = 2022 by omega)]
      exact hG i hi
    · have ho4 : G0 id' = ⟨g', .row 4 1 l⟩ := by rw [hG id' hi']; exact ho'
      have hne2 : ¬ id' = 2022 := by omega
      repeat' first | refine c_seq ?_ | refine c_block ?_ | refine c_reg' rfl fun K hK => ?_ | (refine r_opN fun κ η => ?_; simp only [go_sem, Nat.reduceLT, Nat.reduceEqDiff, Nat.reduceAdd, Nat.reduceMul, Nat.reduceLeDiff, Nat.le_refl, reduceIte, reduceCtorEq, ho3, hxx, hne, ho4, hne2]; (repeat refine ⟨by omega, ?_⟩); refine η _ ?_; clear η κ) | (refine r_nil (hK _ ?_); clear hK K) | refine q_seq ?_ | refine q_blk ?_ | refine c_skip ?_ | refine q_lpN ?_
      refine ⟨xs.length - (k + 1), by omega, k + 1, rfl, by omega, _, _, _, ?_, nf_of rfl ⟨rfl, rfl, rfl, rfl, trivial⟩ ⟨by rw [hs2]; rfl, trivial⟩⟩
      intro i hi
      rw [nf_o]
      simp only [lookO_cons, lookO_nil, if_neg (show ¬ i = 2022 by omega)]
      exact hG i hi
  · simp only [decide_eq_false_iff_not] at hq
    have hkl : k = ls.length := by omega
    subst hkl
    rw [List.take_length]
    repeat' first | refine c_seq ?_ | refine c_reg' rfl fun K hK => ?_ | (refine r_opN fun κ η => ?_; simp only [go_sem, Nat.reduceLT, Nat.reduceEqDiff, Nat.reduceAdd, Nat.reduceMul, Nat.reduceLeDiff, Nat.le_refl, reduceIte, reduceCtorEq]; refine η _ ?_; clear η κ) | (refine r_nil (hK _ ?_); clear hK K) | refine q_seq ?_ | refine c_exit ?_ | refine c_ret ?_ | refine q_seqE ?_ | refine q_blkHit ?_ | refine q_lpE ?_ | (refine q_ret ?_; refine q_r1 ?_; simp only [go_sem, Nat.reduceLT, Nat.reduceEqDiff, Nat.reduceAdd, Nat.reduceMul, Nat.reduceLeDiff, Nat.le_refl, reduceIte, reduceCtorEq])
    exact ⟨gk, rfl, rfl, fun i hi => by rw [nf_o]; simp only [lookO_cons, lookO_nil, if_neg (show ¬ i = 2022 by omega)]; exact hG i hi⟩
end Go.Proofs.Ytpbfkpdfodmcaaa
