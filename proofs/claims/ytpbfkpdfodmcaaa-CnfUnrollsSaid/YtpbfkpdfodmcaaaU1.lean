import Derived.Test.YtpbfkpdfodmcaaaR1
import Derived.Test.YtpbfkpdfodmcaaaE1
import Derived.Test.YtpbfkpdfodmcaaaE5
namespace Go.Proofs.Ytpbfkpdfodmcaaa
open Go.RowKit
set_option maxRecDepth 100000
set_option linter.unusedSimpArgs false
variable (Hy : World → Prop)
attribute [local irreducible] runM runD cwp seqQ blkQ lpQ retQ
theorem iC_app (l m : List Int) : iC (l ++ m) = iC l ++ iC m := by simp [iC]
/-- the first row that the reference lays: no gate in it -/
def beg0 (g : G) (begin : List Int) : Cn := ⟨1 + eithN begin, [[1]], [mk (1 + g.ins.toNat + begin.length) (firstF g begin begin.length)]⟩
set_option maxHeartbeats 2000000 in
theorem rbegins_ct (g : G) (begin : List Int) (hg : 0 ≤ g.ins ∧ g.ins ≤ 4000) (hb : begin.length ≤ 4000) (hbad : begin.any badB = false) : Ct Try.prog Hy 94 [g.t, iL begin] [(beg0 g begin).t] := by
  refine ct_of (cls := _root_.id) tt_ok follows_ Try.func94 rfl (by decide) (Nat.le_of_ble_eq_true rfl) ?_
  rw [show Try.f94.ntmps = 55 from rfl, s0_nf]
  simp only [List.zipIdx_cons, List.zipIdx_nil, List.map_cons, List.map_nil, Nat.reduceAdd, G.t, iL, pL]
  repeat' first | refine c_seq ?_ | refine c_block ?_ | refine c_reg' rfl fun K hK => ?_ | (refine r_opN fun κ η => ?_; simp only [go_sem, Nat.reduceLT, Nat.reduceEqDiff, Nat.reduceAdd, Nat.reduceMul, Nat.reduceLeDiff, Nat.le_refl, reduceIte, reduceCtorEq]; refine η _ ?_; clear η κ) | (refine r_nil (hK _ ?_); clear hK K) | refine q_seq ?_
  refine c_loop (fun m s' => ∃ i : Nat, m = g.ins.toNat - i ∧ i ≤ g.ins.toNat ∧ ∃ F oc n, s' = nf 55 F oc [(1, .t (iL begin)), (2, .ptr 2 1 0), (4, .ptr 4 1 0), (5, .ptr 5 1 0), (6, .row 12 n), (7, .t (.i .i64 i))] [(2, ⟨1, .cells 25 g.cells⟩), (4, ⟨1, .cells 55 [.t (.i .i64 0), .nilS, .nilS]⟩), (5, ⟨1, .cells 55 [.t (.i .i64 1), .row 10 1, .nilS]⟩), (9, ⟨1, .row 3 1 [[.i .i64 1]]⟩), (10, ⟨1, .rowA 103 1 [[.row 9 1]]⟩), (12, ⟨n, .row 3 1 (iC (mk (1 + i) (firstF g begin 0)))⟩)]) g.ins.toNat ?_ ?_
  · exact ⟨0, by omega, by omega, _, _, _, nf_of rfl ⟨rfl, rfl, rfl, rfl, rfl, rfl, trivial⟩ ⟨rfl, rfl, rfl, rfl, rfl, rfl, trivial⟩⟩
  rintro m s' ⟨i, rfl, hi, F, oc, n, rfl⟩
  have hl1 : (iC (mk (1 + i) (firstF g begin 0))).length = 1 + i := by rw [iC_len, mk_len]
  simp only [iL, G.cells, pL]
  repeat' first | refine c_seq ?_ | refine c_reg' rfl fun K hK => ?_ | (refine r_opN fun κ η => ?_; simp only [go_sem, Nat.reduceLT, Nat.reduceEqDiff, Nat.reduceAdd, Nat.reduceMul, Nat.reduceLeDiff, Nat.le_refl, reduceIte, reduceCtorEq]; (repeat refine ⟨by omega, ?_⟩); refine η _ ?_; clear η κ) | (refine r_nil (hK _ ?_); clear hK K) | refine q_seq ?_
  refine c_cond _ rfl (fun hq => ?_) (fun hq => ?_)
  · simp only [decide_eq_true_eq] at hq
    have hs : iC (mk (1 + (i + 1)) (firstF g begin 0)) = iC (mk (1 + i) (firstF g begin 0)) ++ [[.i .i64 0]] := by
      rw [show 1 + (i + 1) = 1 + i + 1 by omega, mk_succ, iC_app]
      unfold firstF
      rw [if_neg (by omega), if_neg (by omega)]
      rfl
    repeat' first | refine c_seq ?_ | refine c_block ?_ | refine c_reg' rfl fun K hK => ?_ | (refine r_opN fun κ η => ?_; simp only [go_sem, Nat.reduceLT, Nat.reduceEqDiff, Nat.reduceAdd, Nat.reduceMul, Nat.reduceLeDiff, Nat.le_refl, reduceIte, reduceCtorEq]; (repeat refine ⟨by omega, ?_⟩); refine η _ ?_; clear η κ) | (refine r_nil (hK _ ?_); clear hK K) | refine q_seq ?_ | refine q_blk ?_ | refine c_skip ?_ | refine q_lpN ?_
    exact ⟨g.ins.toNat - (i + 1), by omega, i + 1, rfl, by omega, _, _, _, nf_of rfl ⟨rfl, rfl, rfl, rfl, rfl, rfl, trivial⟩ ⟨rfl, rfl, rfl, rfl, rfl, by rw [hs]; rfl, trivial⟩⟩
  simp only [decide_eq_false_iff_not] at hq
  obtain rfl : i = g.ins.toNat := by omega
  have hs0 : iC (mk (1 + g.ins.toNat) (firstF g begin 0)) = iC (mk (1 + g.ins.toNat + 0) (firstF g begin begin.length)) := by
    congr 1
    refine mk_congr fun j hj => ?_
    unfold firstF
    by_cases h : j = 0
    · rw [if_pos h, if_pos h]
    · rw [if_neg h, if_neg h, if_neg (by omega), if_neg (by omega)]
  repeat' first | refine c_seq ?_ | refine c_block ?_ | refine c_reg' rfl fun K hK => ?_ | (refine r_opN fun κ η => ?_; simp only [go_sem, Nat.reduceLT, Nat.reduceEqDiff, Nat.reduceAdd, Nat.reduceMul, Nat.reduceLeDiff, Nat.le_refl, reduceIte, reduceCtorEq]; refine η _ ?_; clear η κ) | (refine r_nil (hK _ ?_); clear hK K) | refine q_seq ?_ | refine c_exit ?_ | refine q_seqE ?_ | refine q_blkHit ?_ | refine q_lpE ?_
  refine c_loop (fun m s' => ∃ i : Nat, m = begin.length - i ∧ i ≤ begin.length ∧ ∃ F oc n, s' = nf 55 F oc [(1, .t (iL begin)), (4, .ptr 4 1 0), (5, .ptr 5 1 0), (6, .row 12 n), (8, .t (.i .i64 i))] [(4, ⟨1, .cells 55 [.t (.i .i64 0), .nilS, .nilS]⟩), (5, ⟨1, .cells 55 [.t (.i .i64 (1 + eithN (begin.take i))), .row 10 1, .nilS]⟩), (9, ⟨1, .row 3 1 [[.i .i64 1]]⟩), (10, ⟨1, .rowA 103 1 [[.row 9 1]]⟩), (12, ⟨n, .row 3 1 (iC (mk (1 + g.ins.toNat + i) (firstF g begin begin.length)))⟩)]) begin.length ?_ ?_
  · exact ⟨0, by omega, by omega, _, _, _, nf_of rfl ⟨rfl, rfl, rfl, rfl, rfl, trivial⟩ ⟨rfl, rfl, rfl, rfl, by rw [← hs0]; rfl, trivial⟩⟩
  clear hs0 hl1 F oc n
  rintro m s' ⟨i, rfl, hi, F, oc, n, rfl⟩
  have hl1 : (iC (mk (1 + g.ins.toNat + i) (firstF g begin begin.length))).length = 1 + g.ins.toNat + i := by rw [iC_len, mk_len]
  have hle := eithN_le (begin.take i)
  rw [List.length_take] at hle
  simp only [iL]
  repeat' first | refine c_seq ?_ | refine c_reg' rfl fun K hK => ?_ | (refine r_opN fun κ η => ?_; simp only [go_sem, Nat.reduceLT, Nat.reduceEqDiff, Nat.reduceAdd, Nat.reduceMul, Nat.reduceLeDiff, Nat.le_refl, reduceIte, reduceCtorEq]; refine η _ ?_; clear η κ) | (refine r_nil (hK _ ?_); clear hK K) | refine q_seq ?_
  refine c_cond _ rfl (fun hq => ?_) (fun hq => ?_)
  · simp only [decide_eq_true_eq] at hq
    obtain ⟨x, hx⟩ : ∃ x, begin[i]? = some x := ⟨_, List.getElem?_eq_getElem (by omega)⟩
    have hxx : begin.getD i 0 = x := by rw [List.getD_eq_getElem?_getD, hx]; rfl
    have he := eithN_take hx
    have hbx : badB x = false := Bool.not_eq_true _ ▸ (List.any_eq_false.1 hbad x (List.mem_of_getElem? hx))
    replace hbx := of_decide_eq_false hbx
    have hs : iC (mk (1 + g.ins.toNat + (i + 1)) (firstF g begin begin.length)) = iC (mk (1 + g.ins.toNat + i) (firstF g begin begin.length)) ++ [[.i .i64 (begV begin i)]] := by
      rw [show 1 + g.ins.toNat + (i + 1) = 1 + g.ins.toNat + i + 1 by omega, mk_succ, iC_app]
      have : firstF g begin begin.length (1 + g.ins.toNat + i) = begV begin i := by
        unfold firstF
        rw [if_neg (by omega), if_pos (by omega), show 1 + g.ins.toNat + i - 1 - g.ins.toNat = i by omega]
      rw [this]
      rfl
    repeat' first | refine c_seq ?_ | refine c_block ?_ | refine c_reg' rfl fun K hK => ?_ | (refine r_opN fun κ η => ?_; simp only [go_sem, Nat.reduceLT, Nat.reduceEqDiff, Nat.reduceAdd, Nat.reduceMul, Nat.reduceLeDiff, Nat.le_refl, reduceIte, reduceCtorEq, hx]; (repeat refine ⟨by omega, ?_⟩); refine η _ ?_; clear η κ) | (refine r_nil (hK _ ?_); clear hK K) | refine q_seq ?_ | refine c_skip ?_
    refine c_cond _ rfl (fun h2 => ?_) (fun h2 => ?_)
    · simp only [decide_eq_true_eq] at h2
      rw [if_pos h2] at he
      have hv : begV begin i = 1 + (eithN (begin.take i) : Int) + 1 := by
        rw [begV, hxx, if_neg (by omega), if_neg (by omega), he, Int.add_assoc]
      repeat' first | refine c_seq ?_ | refine c_reg' rfl fun K hK => ?_ | (refine r_opN fun κ η => ?_; simp only [go_sem, Nat.reduceLT, Nat.reduceEqDiff, Nat.reduceAdd, Nat.reduceMul, Nat.reduceLeDiff, Nat.le_refl, reduceIte, reduceCtorEq]; (repeat refine ⟨by omega, ?_⟩); refine η _ ?_; clear η κ) | (refine r_nil (hK _ ?_); clear hK K) | refine q_seq ?_ | refine q_blk ?_ | refine q_lpN ?_
      exact ⟨begin.length - (i + 1), by omega, i + 1, rfl, by omega, _, _, _, nf_of rfl ⟨rfl, rfl, rfl, rfl, rfl, trivial⟩ ⟨rfl, by rw [he, ← Int.add_assoc]; rfl, rfl, rfl, by rw [hs, hv]; rfl, trivial⟩⟩
    · simp only [decide_eq_false_iff_not] at h2
      rw [if_neg h2, Int.add_zero] at he
      have hv : begV begin i = 2 * x - 1 := by
        rw [begV, hxx]
        split
        · omega
        · rw [if_pos (by omega)]
          omega
      repeat' first | refine c_reg' rfl fun K hK => ?_ | (refine r_opN fun κ η => ?_; simp only [go_sem, Nat.reduceLT, Nat.reduceEqDiff, Nat.reduceAdd, Nat.reduceMul, Nat.reduceLeDiff, Nat.le_refl, reduceIte, reduceCtorEq, hx]; (repeat refine ⟨by omega, ?_⟩); refine η _ ?_; clear η κ) | (refine r_nil (hK _ ?_); clear hK K) | refine q_seq ?_ | refine q_blk ?_ | refine q_lpN ?_
      exact ⟨begin.length - (i + 1), by omega, i + 1, rfl, by omega, _, _, _, nf_of rfl ⟨rfl, rfl, rfl, rfl, rfl, trivial⟩ ⟨rfl, by rw [he]; rfl, rfl, rfl, by rw [hs, hv]; rfl, trivial⟩⟩
  simp only [decide_eq_false_iff_not] at hq
  obtain rfl : i = begin.length := by omega
  rw [List.take_length]
  repeat' first | refine c_seq ?_ | refine c_reg' rfl fun K hK => ?_ | (refine r_opN fun κ η => ?_; simp only [go_sem, Nat.reduceLT, Nat.reduceEqDiff, Nat.reduceAdd, Nat.reduceMul, Nat.reduceLeDiff, Nat.le_refl, reduceIte, reduceCtorEq]; (repeat refine ⟨by omega, ?_⟩); refine η _ ?_; clear η κ) | (refine r_nil (hK _ ?_); clear hK K) | refine q_seq ?_ | refine c_exit ?_ | refine c_ret ?_ | refine q_seqE ?_ | refine q_blkHit ?_ | refine q_lpE ?_ | (refine q_ret ?_; refine q_rc ?_; simp only [go_sem, Nat.reduceLT, Nat.reduceEqDiff, Nat.reduceAdd, Nat.reduceMul, Nat.reduceLeDiff, Nat.le_refl, reduceIte, reduceCtorEq])
  simp only [beg0, Cn.t, cL, List.map_cons, List.map_nil, iL_eq, iC]
end Go.Proofs.Ytpbfkpdfodmcaaa
namespace Go.Proofs.Ytpbfkpdfodmcaaa
open Go.RowKit
set_option maxRecDepth 100000
set_option linter.unusedSimpArgs false
variable (Hy : World → Prop)
attribute [local irreducible] runM runD cwp seqQ blkQ lpQ retQ
theorem nowA_row (g : G) (v : Int) (f : Nat → Int) (i : Nat) : iC (mk (firstN g + (i + 1)) (nowA g v f (i + 1))) = iC (mk (firstN g + i) (nowA g v f i)) ++ [[.i .i64 (v + g.ins + i + 1)]] := by
  have h : nowA g v f (i + 1) (firstN g + i) = v + g.ins + i + 1 := by
    unfold nowA
    rw [if_pos (by omega), show firstN g + i - firstN g = i by omega]
    omega
  rw [show firstN g + (i + 1) = firstN g + i + 1 by omega, mk_succ, iC_app, h, mk_congr (f := nowA g v f (i + 1)) (h := nowA g v f i)]
  · rfl
  · intro j hj
    rw [← nowA_succ]
    exact if_neg (by omega)
theorem next_row0 (g : G) (F : Nat → Int) (i : Nat) : iC (mk (1 + (i + 1)) (nextF g F 0)) = iC (mk (1 + i) (nextF g F 0)) ++ [[.i .i64 0]] := by
  rw [show 1 + (i + 1) = 1 + i + 1 by omega, mk_succ, iC_app]
  rw [nextF_zero]
  simp only [show ¬ 1 + i = 0 by omega, if_false]
  rfl
theorem next_row (g : G) (F : Nat → Int) (i : Nat) {x : Int} (hx : g.next[i]? = some x) : iC (mk (1 + g.ins.toNat + (i + 1)) (nextF g F (i + 1))) = iC (mk (1 + g.ins.toNat + i) (nextF g F i)) ++ [[.i .i64 (inF F x)]] := by
  have h : nextF g F (i + 1) (1 + g.ins.toNat + i) = inF F x := by
    rw [← nextF_succ g F i hx]
    exact if_pos rfl
  rw [show 1 + g.ins.toNat + (i + 1) = 1 + g.ins.toNat + i + 1 by omega, mk_succ, iC_app, h, mk_congr (f := nextF g F (i + 1)) (h := nextF g F i)]
  · rfl
  · intro j hj
    rw [← nextF_succ g F i hx]
    exact if_neg (by omega)
theorem q_seqN {n : Nat} {F : Nat → A} {G0 : Nat → O} {sl : List (Nat × A)} {ob : List (Nat × O)} {N : S → Prop} {Q : Exit → S → Prop} {o' : Nat → O} (hs : Stl (nf n F G0 sl ob).o o') (h : N (nf n F o' sl [])) : seqQ N Q .normal (nf n F G0 sl ob) := q_seqS hs h
theorem fr_next {N n : Nat} {F : Nat → A} {o G : Nat → O} {ts : List (Nat × A)} {os : List (Nat × O)} {S : List Nat} (h : Fr N o G S) (e : ((os.map (·.1)).all fun p => (decide (N ≤ p) && decide (p < 10000)) || S.contains p) = true) : Fr N o (nf n F G ts os).o S := fun i hi hS => (fr_nf e i hi hS).trans (h i hi hS)
/-- three rows behind others are data -/
theorem q_three {n : Nat} {F : Nat → A} {G0 : Nat → O} {sl : List (Nat × A)} {ob : List (Nat × O)} {N : S → Prop} {Q : Exit → S → Prop} {L a b c n6 ka kb kc : Nat} {ty : TypeId} {m : List (List A)} {la lb lc : List (List T)}
    (h1 : (nf n F G0 sl ob).o L = ⟨n6, .rowA ty 1 (m ++ [[.row a ka], [.row b kb], [.row c kc]])⟩) (ha : (nf n F G0 sl ob).o a = ⟨ka, .row 3 1 la⟩) (hb : (nf n F G0 sl ob).o b = ⟨kb, .row 3 1 lb⟩) (hc : (nf n F G0 sl ob).o c = ⟨kc, .row 3 1 lc⟩)
    (d1 : L ≠ a ∧ L ≠ b ∧ L ≠ c ∧ a ≠ b ∧ a ≠ c ∧ b ≠ c)
    (h : ∀ o', o' L = ⟨n6, .rowA ty 1 (m ++ [[.t (.sl la)], [.t (.sl lb)], [.t (.sl lc)]])⟩ → (∀ i, i ≠ L → i ≠ a → i ≠ b → i ≠ c → o' i = (nf n F G0 sl ob).o i) → N (nf n F o' sl [])) : seqQ N Q .normal (nf n F G0 sl ob) := by
  obtain ⟨e1, e2, e3, e4, e5, e6⟩ := d1
  obtain ⟨o1, s1, t1, u1, w1⟩ := settle_mid (p := [[.row b kb], [.row c kc]]) h1 ha e1
  obtain ⟨o2, s2, t2, u2, w2⟩ := settle_mid (m := m ++ [[.t (.sl la)]]) (p := [[.row c kc]]) (by rw [t1, List.append_assoc]; rfl) ((w1 b (Ne.symm e2) (Ne.symm e4)).trans hb) e2
  obtain ⟨o3, s3, t3, u3, w3⟩ := settle_mid (m := m ++ [[.t (.sl la)], [.t (.sl lb)]]) (p := []) (by rw [t2, List.append_assoc, List.append_assoc]; rfl) ((w2 c (Ne.symm e3) (Ne.symm e6)).trans ((w1 c (Ne.symm e3) (Ne.symm e5)).trans hc)) e3
  refine q_seqN ((s1.trans s2).trans s3) (h o3 (by rw [t3, List.append_assoc]; rfl) (fun i h1 h2 h3 h4 => ?_))
  rw [w3 i h1 h4, w2 i h1 h3, w1 i h1 h2]
set_option maxHeartbeats 4000000 in
theorem rbegins_cm (g : G) (begin : List Int) (o : Nat → O) (hg : 0 ≤ g.ins ∧ g.ins ≤ 4000) (hb : begin.length ≤ 4000) (hbn : begin.length = g.next.length) (hbad : begin.any badB = false) :
    Cm Try.prog Hy 94 [.ag g.cells, .t (iL begin)] o fun rs o' => ∃ n1 n2 k, rs = [.ag [.t (.i .i64 (1 + eithN begin)), .row 901 n1, .row 902 n2]] ∧ o' 901 = ⟨n1, .rowA 103 1 ([[1]].map fun c => [A.t (iL c)])⟩ ∧ o' 902 = ⟨n2, .rowA 22 1 [[.row 10000 k]]⟩ ∧ o' 10000 = ⟨k, .row 3 1 (iC (mk (firstN g) (firstF g begin begin.length)))⟩ ∧ Fr 1000 o o' [901, 902, 10000] := by
  refine Cm.settle (R := fun rs o' => ∃ n1 n2 k k9, rs = [.ag [.t (.i .i64 (1 + eithN begin)), .row 901 n1, .row 902 n2]] ∧ o' 901 = ⟨n1, .rowA 103 1 [[.row 1009 k9]]⟩ ∧ o' 1009 = ⟨k9, .row 3 1 [[.i .i64 1]]⟩ ∧ o' 902 = ⟨n2, .rowA 22 1 [[.row 10000 k]]⟩ ∧ o' 10000 = ⟨k, .row 3 1 (iC (mk (firstN g) (firstF g begin begin.length)))⟩ ∧ Fr 1000 o o' [901, 902, 10000]) ?_ ?_
  rotate_left
  · rintro rs o' ⟨n1, n2, k, k9, h1, h2, h3, h4, h5, h6⟩
    obtain ⟨o2, s1, s2, _, s4⟩ := settle_mid (m := []) (p := []) h2 h3 (by decide)
    refine ⟨o2, s1, n1, n2, k, h1, s2, (s4 _ (by decide) (by decide)).trans h4, (s4 _ (by decide) (by decide)).trans h5, fun i hi hS => ?_⟩
    rw [s4 i (fun e => hS (by simp [e])) (by omega), h6 i hi hS]
  refine cm_of (cls := fun d => if d = 10 then 901 else if d = 52 then 902 else if d = 12 then 10000 else 1000 + d) tt_ok follows_ Try.func94 rfl (by decide) (Nat.le_of_ble_eq_true rfl) ?_
  rw [show Try.f94.ntmps = 55 from rfl, s0_nf]
  simp only [List.zipIdx_cons, List.zipIdx_nil, List.map_cons, List.map_nil, Nat.reduceAdd, G.cells, iL, pL]
  repeat' first | refine c_seq ?_ | refine c_block ?_ | refine c_reg' rfl fun K hK => ?_ | (refine r_opN fun κ η => ?_; simp only [go_sem, Nat.reduceLT, Nat.reduceEqDiff, Nat.reduceAdd, Nat.reduceMul, Nat.reduceLeDiff, Nat.le_refl, reduceIte, reduceCtorEq]; refine η _ ?_; clear η κ) | (refine r_nil (hK _ ?_); clear hK K) | refine q_seq ?_
  refine c_loop (fun m s' => ∃ i : Nat, m = g.ins.toNat - i ∧ i ≤ g.ins.toNat ∧ ∃ F oc n, s' = nf 55 F oc [(1, .t (iL begin)), (2, .ptr 1002 ((o 1002).gen + 1) 0), (4, .ptr 1004 ((o 1004).gen + 1) 0), (5, .ptr 1005 ((o 1005).gen + 1) 0), (6, .row 10000 n), (7, .t (.i .i64 i))] [(1002, ⟨((o 1002).gen + 1), .cells 25 g.cells⟩), (1004, ⟨((o 1004).gen + 1), .cells 55 [.t (.i .i64 0), .nilS, .nilS]⟩), (1005, ⟨((o 1005).gen + 1), .cells 55 [.t (.i .i64 1), .row 901 ((o 901).gen + 1), .nilS]⟩), (1009, ⟨((o 1009).gen + 1), .row 3 1 [[.i .i64 1]]⟩), (901, ⟨((o 901).gen + 1), .rowA 103 1 [[.row 1009 ((o 1009).gen + 1)]]⟩), (10000, ⟨n, .row 3 1 (iC (mk (1 + i) (firstF g begin 0)))⟩)] ∧ Fr 1000 o oc [901, 902, 10000]) g.ins.toNat ?_ ?_
  · exact ⟨0, by omega, by omega, _, _, _, nf_of rfl ⟨rfl, rfl, rfl, rfl, rfl, rfl, trivial⟩ ⟨rfl, rfl, rfl, rfl, rfl, rfl, trivial⟩, fr_nf rfl⟩
  rintro m s' ⟨i, rfl, hi, F, oc, n, rfl, hF⟩
  have hl1 : (iC (mk (1 + i) (firstF g begin 0))).length = 1 + i := by rw [iC_len, mk_len]
  simp only [iL, G.cells, pL]
  repeat' first | refine c_seq ?_ | refine c_reg' rfl fun K hK => ?_ | (refine r_opN fun κ η => ?_; simp only [go_sem, Nat.reduceLT, Nat.reduceEqDiff, Nat.reduceAdd, Nat.reduceMul, Nat.reduceLeDiff, Nat.le_refl, reduceIte, reduceCtorEq]; (repeat refine ⟨by omega, ?_⟩); refine η _ ?_; clear η κ) | (refine r_nil (hK _ ?_); clear hK K) | refine q_seq ?_
  refine c_cond _ rfl (fun hq => ?_) (fun hq => ?_)
  · simp only [decide_eq_true_eq] at hq
    have hs : iC (mk (1 + (i + 1)) (firstF g begin 0)) = iC (mk (1 + i) (firstF g begin 0)) ++ [[.i .i64 0]] := by
      rw [show 1 + (i + 1) = 1 + i + 1 by omega, mk_succ, iC_app]
      unfold firstF
      rw [if_neg (by omega), if_neg (by omega)]
      rfl
    repeat' first | refine c_seq ?_ | refine c_block ?_ | refine c_reg' rfl fun K hK => ?_ | (refine r_opN fun κ η => ?_; simp only [go_sem, Nat.reduceLT, Nat.reduceEqDiff, Nat.reduceAdd, Nat.reduceMul, Nat.reduceLeDiff, Nat.le_refl, reduceIte, reduceCtorEq]; (repeat refine ⟨by omega, ?_⟩); refine η _ ?_; clear η κ) | (refine r_nil (hK _ ?_); clear hK K) | refine q_seq ?_ | refine q_blk ?_ | refine c_skip ?_ | refine q_lpN ?_
    exact ⟨g.ins.toNat - (i + 1), by omega, i + 1, rfl, by omega, _, _, _, nf_of rfl ⟨rfl, rfl, rfl, rfl, rfl, rfl, trivial⟩ ⟨rfl, rfl, rfl, rfl, rfl, by rw [hs]; rfl, trivial⟩, fr_next hF rfl⟩
  simp only [decide_eq_false_iff_not] at hq
  obtain rfl : i = g.ins.toNat := by omega
  have hs0 : iC (mk (1 + g.ins.toNat) (firstF g begin 0)) = iC (mk (1 + g.ins.toNat + 0) (firstF g begin begin.length)) := by
    congr 1
    refine mk_congr fun j hj => ?_
    unfold firstF
    by_cases h : j = 0
    · rw [if_pos h, if_pos h]
    · rw [if_neg h, if_neg h, if_neg (by omega), if_neg (by omega)]
  repeat' first | refine c_seq ?_ | refine c_block ?_ | refine c_reg' rfl fun K hK => ?_ | (refine r_opN fun κ η => ?_; simp only [go_sem, Nat.reduceLT, Nat.reduceEqDiff, Nat.reduceAdd, Nat.reduceMul, Nat.reduceLeDiff, Nat.le_refl, reduceIte, reduceCtorEq]; refine η _ ?_; clear η κ) | (refine r_nil (hK _ ?_); clear hK K) | refine q_seq ?_ | refine c_exit ?_ | refine q_seqE ?_ | refine q_blkHit ?_ | refine q_lpE ?_
  refine c_loop (fun m s' => ∃ i : Nat, m = begin.length - i ∧ i ≤ begin.length ∧ ∃ F oc n, s' = nf 55 F oc [(1, .t (iL begin)), (4, .ptr 1004 ((o 1004).gen + 1) 0), (5, .ptr 1005 ((o 1005).gen + 1) 0), (6, .row 10000 n), (8, .t (.i .i64 i))] [(1004, ⟨((o 1004).gen + 1), .cells 55 [.t (.i .i64 0), .nilS, .nilS]⟩), (1005, ⟨((o 1005).gen + 1), .cells 55 [.t (.i .i64 (1 + eithN (begin.take i))), .row 901 ((o 901).gen + 1), .nilS]⟩), (1009, ⟨((o 1009).gen + 1), .row 3 1 [[.i .i64 1]]⟩), (901, ⟨((o 901).gen + 1), .rowA 103 1 [[.row 1009 ((o 1009).gen + 1)]]⟩), (10000, ⟨n, .row 3 1 (iC (mk (1 + g.ins.toNat + i) (firstF g begin begin.length)))⟩)] ∧ Fr 1000 o oc [901, 902, 10000]) begin.length ?_ ?_
  · exact ⟨0, by omega, by omega, _, _, _, nf_of rfl ⟨rfl, rfl, rfl, rfl, rfl, trivial⟩ ⟨rfl, rfl, rfl, rfl, by rw [← hs0]; rfl, trivial⟩, fr_next hF rfl⟩
  clear hs0 hl1 hF F oc n
  rintro m s' ⟨i, rfl, hi, F, oc, n, rfl, hF⟩
  have hl1 : (iC (mk (1 + g.ins.toNat + i) (firstF g begin begin.length))).length = 1 + g.ins.toNat + i := by rw [iC_len, mk_len]
  have hle := eithN_le (begin.take i)
  rw [List.length_take] at hle
  simp only [iL]
  repeat' first | refine c_seq ?_ | refine c_reg' rfl fun K hK => ?_ | (refine r_opN fun κ η => ?_; simp only [go_sem, Nat.reduceLT, Nat.reduceEqDiff, Nat.reduceAdd, Nat.reduceMul, Nat.reduceLeDiff, Nat.le_refl, reduceIte, reduceCtorEq]; refine η _ ?_; clear η κ) | (refine r_nil (hK _ ?_); clear hK K) | refine q_seq ?_
  refine c_cond _ rfl (fun hq => ?_) (fun hq => ?_)
  · simp only [decide_eq_true_eq] at hq
    obtain ⟨x, hx⟩ : ∃ x, begin[i]? = some x := ⟨_, List.getElem?_eq_getElem (by omega)⟩
    have hxx : begin.getD i 0 = x := by rw [List.getD_eq_getElem?_getD, hx]; rfl
    have he := eithN_take hx
    have hbx : badB x = false := Bool.not_eq_true _ ▸ (List.any_eq_false.1 hbad x (List.mem_of_getElem? hx))
    replace hbx := of_decide_eq_false hbx
    have hs : iC (mk (1 + g.ins.toNat + (i + 1)) (firstF g begin begin.length)) = iC (mk (1 + g.ins.toNat + i) (firstF g begin begin.length)) ++ [[.i .i64 (begV begin i)]] := by
      rw [show 1 + g.ins.toNat + (i + 1) = 1 + g.ins.toNat + i + 1 by omega, mk_succ, iC_app]
      have : firstF g begin begin.length (1 + g.ins.toNat + i) = begV begin i := by
        unfold firstF
        rw [if_neg (by omega), if_pos (by omega), show 1 + g.ins.toNat + i - 1 - g.ins.toNat = i by omega]
      rw [this]
      rfl
    repeat' first | refine c_seq ?_ | refine c_block ?_ | refine c_reg' rfl fun K hK => ?_ | (refine r_opN fun κ η => ?_; simp only [go_sem, Nat.reduceLT, Nat.reduceEqDiff, Nat.reduceAdd, Nat.reduceMul, Nat.reduceLeDiff, Nat.le_refl, reduceIte, reduceCtorEq, hx]; (repeat refine ⟨by omega, ?_⟩); refine η _ ?_; clear η κ) | (refine r_nil (hK _ ?_); clear hK K) | refine q_seq ?_ | refine c_skip ?_
    refine c_cond _ rfl (fun h2 => ?_) (fun h2 => ?_)
    · simp only [decide_eq_true_eq] at h2
      rw [if_pos h2] at he
      have hv : begV begin i = 1 + (eithN (begin.take i) : Int) + 1 := by
        rw [begV, hxx, if_neg (by omega), if_neg (by omega), he, Int.add_assoc]
      repeat' first | refine c_seq ?_ | refine c_reg' rfl fun K hK => ?_ | (refine r_opN fun κ η => ?_; simp only [go_sem, Nat.reduceLT, Nat.reduceEqDiff, Nat.reduceAdd, Nat.reduceMul, Nat.reduceLeDiff, Nat.le_refl, reduceIte, reduceCtorEq]; (repeat refine ⟨by omega, ?_⟩); refine η _ ?_; clear η κ) | (refine r_nil (hK _ ?_); clear hK K) | refine q_seq ?_ | refine q_blk ?_ | refine q_lpN ?_
      exact ⟨begin.length - (i + 1), by omega, i + 1, rfl, by omega, _, _, _, nf_of rfl ⟨rfl, rfl, rfl, rfl, rfl, trivial⟩ ⟨rfl, by rw [he, ← Int.add_assoc]; rfl, rfl, rfl, by rw [hs, hv]; rfl, trivial⟩, fr_next hF rfl⟩
    · simp only [decide_eq_false_iff_not] at h2
      rw [if_neg h2, Int.add_zero] at he
      have hv : begV begin i = 2 * x - 1 := by
        rw [begV, hxx]
        split
        · omega
        · rw [if_pos (by omega)]
          omega
      repeat' first | refine c_reg' rfl fun K hK => ?_ | (refine r_opN fun κ η => ?_; simp only [go_sem, Nat.reduceLT, Nat.reduceEqDiff, Nat.reduceAdd, Nat.reduceMul, Nat.reduceLeDiff, Nat.le_refl, reduceIte, reduceCtorEq, hx]; (repeat refine ⟨by omega, ?_⟩); refine η _ ?_; clear η κ) | (refine r_nil (hK _ ?_); clear hK K) | refine q_seq ?_ | refine q_blk ?_ | refine q_lpN ?_
      exact ⟨begin.length - (i + 1), by omega, i + 1, rfl, by omega, _, _, _, nf_of rfl ⟨rfl, rfl, rfl, rfl, rfl, trivial⟩ ⟨rfl, by rw [he]; rfl, rfl, rfl, by rw [hs, hv]; rfl, trivial⟩, fr_next hF rfl⟩
  simp only [decide_eq_false_iff_not] at hq
  obtain rfl : i = begin.length := by omega
  rw [List.take_length]
  have hM : 1 + g.ins.toNat + begin.length = firstN g := by unfold firstN; omega
  rw [hM]
  repeat' first | refine c_seq ?_ | refine c_reg' rfl fun K hK => ?_ | (refine r_opN fun κ η => ?_; simp only [go_sem, Nat.reduceLT, Nat.reduceEqDiff, Nat.reduceAdd, Nat.reduceMul, Nat.reduceLeDiff, Nat.le_refl, reduceIte, reduceCtorEq]; (repeat refine ⟨by omega, ?_⟩); refine η _ ?_; clear η κ) | (refine r_nil (hK _ ?_); clear hK K) | refine q_seq ?_ | refine c_exit ?_ | refine c_ret ?_ | refine q_seqE ?_ | refine q_blkHit ?_ | refine q_lpE ?_ | (refine q_ret ?_; refine q_rc ?_; simp only [go_sem, Nat.reduceLT, Nat.reduceEqDiff, Nat.reduceAdd, Nat.reduceMul, Nat.reduceLeDiff, Nat.le_refl, reduceIte, reduceCtorEq])
  exact ⟨_, _, n, _, rfl, rfl, rfl, rfl, rfl, fr_next hF rfl⟩
end Go.Proofs.Ytpbfkpdfodmcaaa
