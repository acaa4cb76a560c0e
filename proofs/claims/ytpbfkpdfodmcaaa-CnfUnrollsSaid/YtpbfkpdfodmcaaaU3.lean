import Derived.Test.YtpbfkpdfodmcaaaU1
namespace Go.Proofs.Ytpbfkpdfodmcaaa
open Go.RowKit
set_option maxRecDepth 100000
set_option linter.unusedSimpArgs false
variable (Hy : World → Prop)
attribute [local irreducible] runM runD cwp seqQ blkQ lpQ retQ
/-- rows of data -/
def aC (l : List (List Int)) : List (List A) := l.map fun c => [A.t (iL c)]
/-- the reference's steps, in memory -/
structure RU (g : G) (u : Us) (R n1 n2 kk : Nat) (o : Nat → O) : Prop where
  cl : o 901 = ⟨n1, .rowA 103 1 (aC u.cls)⟩
  lt : o 902 = ⟨n2, .rowA 22 1 ((u.rows.map fun r => [A.t (iL r)]) ++ [[.row R kk]])⟩
  rw_ : o R = ⟨kk, .row 3 1 (iC (mk (firstN g) u.f))⟩
set_option maxHeartbeats 8000000 in
theorem rstep0_cm (g : G) (u : Us) (o : Nat → O) {n1 n2 kk N : Nat} (hg : GOk g N) (hS : u.v ≤ 500000 ∧ 1 ≤ u.v ∧ u.rows.length ≤ 90 ∧ u.cls.length ≤ 800000) (hU : RU g u 10000 n1 n2 kk o) :
    Cm Try.prog Hy 95 [.ag [.t (.i .i64 u.v), .row 901 n1, .row 902 n2], .ag g.cells] o fun rs o' => ∃ m1 m2 k2, rs = [.ag [.t (.i .i64 (unNext g u).v), .row 901 m1, .row 902 m2]] ∧ RU g (unNext g u) 10001 m1 m2 k2 o' ∧ Fr 1000 o o' [901, 902, 10000, 10001] := by
  have hN := hg.hN
  have hg0 := hg.i0
  have hle := hg.le
  obtain ⟨v1, v2, v3, v4⟩ := hS
  have hNf : N = firstN g + g.ands.length := by unfold firstN; omega
  have hNN : g.N = firstN g + g.ands.length := by unfold firstN G.N; omega
  have hM1 : 1 + g.ins.toNat ≤ firstN g := by unfold firstN; omega
  refine Cm.settle (R := fun rs o' => ∃ m1 m2 k2 kr, rs = [.ag [.t (.i .i64 (unNext g u).v), .row 901 m1, .row 902 m2]] ∧ o' 901 = ⟨m1, .rowA 103 1 (aC (unNext g u).cls)⟩ ∧
      o' 902 = ⟨m2, .rowA 22 1 ((u.rows.map fun r => [A.t (iL r)]) ++ [.row 10000 kr] :: [[.row 10001 k2]])⟩ ∧ o' 10000 = ⟨kr, .row 3 1 (iC (mk g.N (nowA g u.v u.f g.ands.length)))⟩ ∧ o' 10001 = ⟨k2, .row 3 1 (iC (mk (firstN g) (unNext g u).f))⟩ ∧ Fr 1000 o o' [901, 902, 10000, 10001]) ?_ ?_
  rotate_left
  · rintro rs o' ⟨m1, m2, k2, kr, h1, h2, h3, h4, h5, h6⟩
    obtain ⟨o2, s1, s2, _, s4⟩ := settle_mid h3 h4 (by decide)
    refine ⟨o2, s1, m1, m2, k2, h1, ⟨(s4 _ (by decide) (by decide)).trans h2, ?_, (s4 _ (by decide) (by decide)).trans h5⟩, fun i hi hS => ?_⟩
    · rw [s2]
      simp [unNext, iL_eq]
    · rw [s4 i (fun e => hS (by simp [e])) (fun e => hS (by simp [e])), h6 i hi hS]
  obtain ⟨hcl, hlt, hrw⟩ := hU
  obtain ⟨lr, hlr⟩ : ∃ lr, lr = (u.rows.map fun r => [A.t (iL r)]) ++ [[A.row 10000 kk]] := ⟨_, rfl⟩
  have hlrl : lr.length = u.rows.length + 1 := by rw [hlr]; simp
  have hlrg : lr[u.rows.length]? = some [A.row 10000 kk] := by rw [hlr]; simp
  have hM : ((lr.length : Int) - 1).toNat = u.rows.length := by omega
  rw [← hlr] at hlt
  refine cm_of (cls := fun d => if d = 97 then 10001 else 1000 + d) tt_ok follows_ Try.func95 rfl (by decide) (Nat.le_of_ble_eq_true rfl) ?_
  rw [show Try.f95.ntmps = 131 from rfl, s0_nf]
  simp only [List.zipIdx_cons, List.zipIdx_nil, List.map_cons, List.map_nil, Nat.reduceAdd, G.cells, iL, pL]
  repeat' first | refine c_seq ?_ | refine c_block ?_ | refine c_reg' rfl fun K hK => ?_ | (refine r_opN fun κ η => ?_; simp only [go_sem, Nat.reduceLT, Nat.reduceEqDiff, Nat.reduceAdd, Nat.reduceMul, Nat.reduceLeDiff, Nat.le_refl, reduceIte, reduceCtorEq, hcl, hlt, hM, hlrg]; (repeat refine ⟨by omega, ?_⟩); refine η _ ?_; clear η κ) | (refine r_nil (hK _ ?_); clear hK K) | refine q_seq ?_
  refine c_loop (fun q s' => ∃ i : Nat, q = g.ins.toNat - i ∧ i ≤ g.ins.toNat ∧ ∃ F oc, s' = nf 131 F oc [(2, .ptr 1002 ((o 1002).gen + 1) 0), (3, .ptr 1003 ((o 1003).gen + 1) 0), (4, .ptr 1004 ((o 1004).gen + 1) 0), (5, .t (.i .i64 ((lr.length : Int) - 1))), (6, .row 10000 kk), (7, .t (.i .i64 i))] [(1002, ⟨((o 1002).gen + 1), .cells 55 [.t (.i .i64 (u.v + i)), .row 901 n1, .row 902 n2]⟩), (1003, ⟨((o 1003).gen + 1), .cells 25 g.cells⟩), (1004, ⟨((o 1004).gen + 1), .cells 55 [.t (.i .i64 0), .nilS, .nilS]⟩), (901, ⟨n1, .rowA 103 1 (aC (u.cls))⟩), (902, ⟨n2, .rowA 22 1 lr⟩), (10000, ⟨kk, .row 3 1 (iC (mk (firstN g) (nowI u.v u.f i)))⟩)] ∧ Fr 1000 o oc [901, 902, 10000, 10001]) g.ins.toNat ?_ ?_
  · refine ⟨0, by omega, by omega, _, _, nf_of rfl ⟨rfl, rfl, rfl, rfl, rfl, rfl, trivial⟩ ⟨?_, rfl, rfl, hcl, hlt, ?_, trivial⟩, fr_nf rfl⟩
    · rw [show u.v + ((0 : Nat) : Int) = u.v from Int.add_zero _]
      rfl
    · rw [nowI_zero]
      exact hrw
  rintro q s' ⟨i, rfl, hi, F, oc, rfl, hF⟩
  simp only [G.cells, iL, pL]
  repeat' first | refine c_seq ?_ | refine c_reg' rfl fun K hK => ?_ | (refine r_opN fun κ η => ?_; simp only [go_sem, Nat.reduceLT, Nat.reduceEqDiff, Nat.reduceAdd, Nat.reduceMul, Nat.reduceLeDiff, Nat.le_refl, reduceIte, reduceCtorEq]; (repeat refine ⟨by omega, ?_⟩); refine η _ ?_; clear η κ) | (refine r_nil (hK _ ?_); clear hK K) | refine q_seq ?_
  refine c_cond _ rfl (fun hq => ?_) (fun hq => ?_)
  · simp only [decide_eq_true_eq] at hq
    have hp : (1 + (i : Int)).toNat = 1 + i := by omega
    have hget := iC_get (mk_get (n := firstN g) (f := nowI u.v u.f i) (show 1 + i < firstN g by omega))
    have hlen : (iC (mk (firstN g) (nowI u.v u.f i))).length = firstN g := by rw [iC_len, mk_len]
    have hset : (iC (mk (firstN g) (nowI u.v u.f i))).set (1 + i) [.i .i64 (u.v + i + 1)] = iC (mk (firstN g) (nowI u.v u.f (i + 1))) := by
      rw [iC_set, mk_set, ← nowI_succ, Int.add_assoc]
    repeat' first | refine c_seq ?_ | refine c_block ?_ | refine c_reg' rfl fun K hK => ?_ | (refine r_opN fun κ η => ?_; simp only [go_sem, Nat.reduceLT, Nat.reduceEqDiff, Nat.reduceAdd, Nat.reduceMul, Nat.reduceLeDiff, Nat.le_refl, reduceIte, reduceCtorEq, hp, hget, hlen, hset]; (repeat refine ⟨by omega, ?_⟩); refine η _ ?_; clear η κ) | (refine r_nil (hK _ ?_); clear hK K) | refine q_seq ?_ | refine q_blk ?_ | refine c_skip ?_ | refine q_lpN ?_
    exact ⟨g.ins.toNat - (i + 1), by omega, i + 1, rfl, by omega, _, _, nf_of rfl ⟨rfl, rfl, rfl, rfl, rfl, rfl, trivial⟩ ⟨by rw [show u.v + ((i + 1 : Nat) : Int) = u.v + i + 1 by omega]; rfl, rfl, rfl, rfl, rfl, rfl, trivial⟩, fr_next hF rfl⟩
  simp only [decide_eq_false_iff_not] at hq
  obtain rfl : i = g.ins.toNat := by omega
  rw [show u.v + ((g.ins.toNat : Nat) : Int) = u.v + g.ins by omega]
  repeat' first | refine c_seq ?_ | refine c_block ?_ | refine c_reg' rfl fun K hK => ?_ | (refine r_opN fun κ η => ?_; simp only [go_sem, Nat.reduceLT, Nat.reduceEqDiff, Nat.reduceAdd, Nat.reduceMul, Nat.reduceLeDiff, Nat.le_refl, reduceIte, reduceCtorEq]; refine η _ ?_; clear η κ) | (refine r_nil (hK _ ?_); clear hK K) | refine q_seq ?_ | refine c_exit ?_ | refine q_seqE ?_ | refine q_blkHit ?_ | refine q_lpE ?_
  refine c_loop (fun q s' => ∃ i : Nat, q = g.ands.length - i ∧ i ≤ g.ands.length ∧ ∃ F oc nc kr, s' = nf 131 F oc [(2, .ptr 1002 ((o 1002).gen + 1) 0), (3, .ptr 1003 ((o 1003).gen + 1) 0), (4, .ptr 1004 ((o 1004).gen + 1) 0), (5, .t (.i .i64 ((lr.length : Int) - 1))), (6, .row 10000 kr), (8, .t (.i .i64 i))] [(1002, ⟨((o 1002).gen + 1), .cells 55 [.t (.i .i64 (u.v + g.ins + i)), .row 901 nc, .row 902 n2]⟩), (1003, ⟨((o 1003).gen + 1), .cells 25 g.cells⟩), (1004, ⟨((o 1004).gen + 1), .cells 55 [.t (.i .i64 0), .nilS, .nilS]⟩), (901, ⟨nc, .rowA 103 1 (aC (u.cls ++ clsA g u.v (nowA g u.v u.f g.ands.length) i))⟩), (902, ⟨n2, .rowA 22 1 lr⟩), (10000, ⟨kr, .row 3 1 (iC (mk (firstN g + i) (nowA g u.v u.f i)))⟩)] ∧ Fr 1000 o oc [901, 902, 10000, 10001]) g.ands.length ?_ ?_
  · refine ⟨0, by omega, by omega, _, _, n1, kk, nf_of rfl ⟨rfl, rfl, rfl, rfl, rfl, rfl, trivial⟩ ⟨?_, rfl, rfl, ?_, rfl, ?_, trivial⟩, fr_next hF rfl⟩
    · rw [show u.v + g.ins + ((0 : Nat) : Int) = u.v + g.ins from Int.add_zero _]
      rfl
    · rw [show u.cls ++ clsA g u.v (nowA g u.v u.f g.ands.length) 0 = u.cls from by simp [clsA]]
      rfl
    · rw [nowA_zero]
      rfl
  clear hF hi hq F oc
  rintro q s' ⟨i, rfl, hi, F, oc, nc, kr, rfl, hF⟩
  simp only [G.cells, iL, pL]
  repeat' first | refine c_seq ?_ | refine c_reg' rfl fun K hK => ?_ | (refine r_opN fun κ η => ?_; simp only [go_sem, Nat.reduceLT, Nat.reduceEqDiff, Nat.reduceAdd, Nat.reduceMul, Nat.reduceLeDiff, Nat.le_refl, reduceIte, reduceCtorEq]; (repeat refine ⟨by omega, ?_⟩); refine η _ ?_; clear η κ) | (refine r_nil (hK _ ?_); clear hK K) | refine q_seq ?_
  refine c_cond _ rfl (fun hq => ?_) (fun hq => ?_)
  · simp only [decide_eq_true_eq] at hq
    obtain ⟨a, ha⟩ : ∃ a, g.ands[i]? = some a := ⟨_, List.getElem?_eq_getElem (by omega)⟩
    obtain ⟨⟨p1, p2, p3⟩, ⟨p4, p5, p6⟩⟩ := hg.an i a ha
    have hx : inW (mk (firstN g + i) (nowA g u.v u.f i)) a.1 = inF (nowA g u.v u.f g.ands.length) a.1 := by rw [inW_mk (by omega), nowA_in g u.v u.f (show i ≤ g.ands.length by omega) (by omega)]
    have hy : inW (mk (firstN g + i) (nowA g u.v u.f i)) a.2 = inF (nowA g u.v u.f g.ands.length) a.2 := by rw [inW_mk (by omega), nowA_in g u.v u.f (show i ≤ g.ands.length by omega) (by omega)]
    have hcln := clsA_len g u.v (nowA g u.v u.f g.ands.length) i
    have hll : (aC (u.cls ++ clsA g u.v (nowA g u.v u.f g.ands.length) i)).length ≤ 900000 := by rw [aC, List.length_map, List.length_append, hcln]; omega
    have hrl : (iC (mk (firstN g + i) (nowA g u.v u.f i))).length = firstN g + i := by rw [iC_len, mk_len]
    have hcs := clsA_succ g u.v (nowA g u.v u.f g.ands.length) ha
    rw [show u.v + g.ins + 1 + (i : Int) = u.v + g.ins + i + 1 by omega] at hcs
    have hcm : (aC (u.cls ++ clsA g u.v (nowA g u.v u.f g.ands.length) (i + 1))) = (aC (u.cls ++ clsA g u.v (nowA g u.v u.f g.ands.length) i)) ++ [[.t (iL [negW (u.v + g.ins + i + 1), inF (nowA g u.v u.f g.ands.length) a.1])], [.t (iL [negW (u.v + g.ins + i + 1), inF (nowA g u.v u.f g.ands.length) a.2])], [.t (iL [u.v + g.ins + i + 1, negW (inF (nowA g u.v u.f g.ands.length) a.1), negW (inF (nowA g u.v u.f g.ands.length) a.2)])]] := by
      rw [hcs]
      simp [andCl, aC]
    have hw : ∀ x, IntKind.wrap .i64 (0 - x) = negW x := fun _ => rfl
    have hrs := nowA_row g u.v u.f i
    generalize (aC (u.cls ++ clsA g u.v (nowA g u.v u.f g.ands.length) i)) = cm at *
    repeat' first | refine c_seq ?_ | refine c_block ?_ | refine c_reg' rfl fun K hK => ?_ | (refine r_opN fun κ η => ?_; simp only [go_sem, Nat.reduceLT, Nat.reduceEqDiff, Nat.reduceAdd, Nat.reduceMul, Nat.reduceLeDiff, Nat.le_refl, reduceIte, reduceCtorEq, ha]; (repeat refine ⟨by omega, ?_⟩); refine η _ ?_; clear η κ) | (refine r_nil (hK _ ?_); clear hK K) | refine q_seq ?_ | refine c_skip ?_
    refine r_opN fun κ η => ?_; simp only [go_sem, Nat.reduceLT, Nat.reduceEqDiff, Nat.reduceAdd, Nat.reduceMul, Nat.reduceLeDiff, Nat.le_refl, reduceIte, reduceCtorEq, ha, hx]; refine ⟨_, rin_ct Hy (mk (firstN g + i) (nowA g u.v u.f i)) a.1 ⟨p1, by rw [mk_len]; omega, by omega⟩, ?_⟩; simp only [go_sem, Nat.reduceLT, Nat.reduceEqDiff, Nat.reduceAdd, Nat.reduceMul, Nat.reduceLeDiff, Nat.le_refl, reduceIte, reduceCtorEq, ha, hx]; refine η _ ?_; clear η κ
    repeat' first | refine c_seq ?_ | refine c_reg' rfl fun K hK => ?_ | (refine r_opN fun κ η => ?_; simp only [go_sem, Nat.reduceLT, Nat.reduceEqDiff, Nat.reduceAdd, Nat.reduceMul, Nat.reduceLeDiff, Nat.le_refl, reduceIte, reduceCtorEq, ha]; (repeat refine ⟨by omega, ?_⟩); refine η _ ?_; clear η κ) | (refine r_nil (hK _ ?_); clear hK K) | refine q_seq ?_
    refine r_opN fun κ η => ?_; simp only [go_sem, Nat.reduceLT, Nat.reduceEqDiff, Nat.reduceAdd, Nat.reduceMul, Nat.reduceLeDiff, Nat.le_refl, reduceIte, reduceCtorEq, ha, hy]; refine ⟨_, rin_ct Hy (mk (firstN g + i) (nowA g u.v u.f i)) a.2 ⟨p4, by rw [mk_len]; omega, by omega⟩, ?_⟩; simp only [go_sem, Nat.reduceLT, Nat.reduceEqDiff, Nat.reduceAdd, Nat.reduceMul, Nat.reduceLeDiff, Nat.le_refl, reduceIte, reduceCtorEq, ha, hy]; refine η _ ?_; clear η κ
    repeat' first | (refine r_opN fun κ η => ?_; simp only [go_sem, Nat.reduceLT, Nat.reduceEqDiff, Nat.reduceAdd, Nat.reduceMul, Nat.reduceLeDiff, Nat.le_refl, reduceIte, reduceCtorEq, hw, hll]; refine η _ ?_; clear η κ) | (refine r_nil (hK _ ?_); clear hK K)
    refine q_seq ?_
    repeat' first | refine c_seq ?_ | refine c_reg' rfl fun K hK => ?_ | (refine r_opN fun κ η => ?_; simp only [go_sem, Nat.reduceLT, Nat.reduceEqDiff, Nat.reduceAdd, Nat.reduceMul, Nat.reduceLeDiff, Nat.le_refl, reduceIte, reduceCtorEq, hw, hll]; (repeat refine ⟨by omega, ?_⟩); refine η _ ?_; clear η κ) | (refine r_nil (hK _ ?_); clear hK K)
    refine q_three (L := 901) (a := 1074) (b := 1078) (c := 1084) (m := cm) (by exact rfl) (by exact rfl) (by exact rfl) (by exact rfl) (by decide) fun o2 t2 t3 => ?_
    have e2 : o2 1002 = ⟨((o 1002).gen + 1), .cells 55 [.t (.i .i64 (u.v + g.ins + i + 1)), .row 901 (nc + 1), .row 902 n2]⟩ := t3 1002 (by decide) (by decide) (by decide) (by decide)
    have eR : o2 10000 = ⟨kr, .row 3 1 (iC (mk (firstN g + i) (nowA g u.v u.f i)))⟩ := t3 10000 (by decide) (by decide) (by decide) (by decide)
    have hF2 : Fr 1000 o o2 [901, 902, 10000, 10001] := fun j hj hS => by
      simp only [List.mem_cons, List.not_mem_nil, or_false, not_or] at hS
      rw [t3 j (by omega) (by omega) (by omega) (by omega)]
      exact fr_next (S := [901, 902, 10000, 10001]) hF rfl j hj (by simp; omega)
    repeat' first | refine c_reg' rfl fun K hK => ?_ | (refine r_opN fun κ η => ?_; simp only [go_sem, Nat.reduceLT, Nat.reduceEqDiff, Nat.reduceAdd, Nat.reduceMul, Nat.reduceLeDiff, Nat.le_refl, reduceIte, reduceCtorEq, eR, hrl]; (repeat refine ⟨by omega, ?_⟩); refine η _ ?_; clear η κ) | (refine r_nil (hK _ ?_); clear hK K) | refine q_seq ?_ | refine q_blk ?_ | refine q_lpN ?_
    exact ⟨g.ands.length - (i + 1), by omega, i + 1, rfl, by omega, _, _, _, _, nf_of rfl ⟨rfl, rfl, rfl, rfl, rfl, rfl, trivial⟩ ⟨by rw [show u.v + g.ins + ((i + 1 : Nat) : Int) = u.v + g.ins + i + 1 by omega]; exact e2, t3 1003 (by decide) (by decide) (by decide) (by decide), t3 1004 (by decide) (by decide) (by decide) (by decide), by rw [hcm]; exact t2, t3 902 (by decide) (by decide) (by decide) (by decide), by rw [hrs]; rfl, trivial⟩, fr_next hF2 rfl⟩
  simp only [decide_eq_false_iff_not] at hq
  obtain rfl : i = g.ands.length := by omega
  clear hi hq
  have hset : lr.set u.rows.length [A.row 10000 kr] = (u.rows.map fun r => [A.t (iL r)]) ++ [[A.row 10000 kr]] := by
    rw [hlr, List.set_append_right _ _ (by simp)]
    simp
  repeat' first | refine c_seq ?_ | refine c_block ?_ | refine c_reg' rfl fun K hK => ?_ | (refine r_opN fun κ η => ?_; simp only [go_sem, Nat.reduceLT, Nat.reduceEqDiff, Nat.reduceAdd, Nat.reduceMul, Nat.reduceLeDiff, Nat.le_refl, reduceIte, reduceCtorEq, hM, hlrg, hset]; (repeat refine ⟨by omega, ?_⟩); refine η _ ?_; clear η κ) | (refine r_nil (hK _ ?_); clear hK K) | refine q_seq ?_ | refine c_exit ?_ | refine q_seqE ?_ | refine q_blkHit ?_ | refine q_lpE ?_
  have hl2 : ((u.rows.map fun r => [A.t (iL r)]) ++ [[A.row 10000 kr]]).length = u.rows.length + 1 := by simp
  obtain ⟨l2, hl2e⟩ : ∃ l2, l2 = (u.rows.map fun r => [A.t (iL r)]) ++ [[A.row 10000 kr]] := ⟨_, rfl⟩
  rw [← hl2e] at hl2 ⊢
  refine c_loop (fun q s' => ∃ i : Nat, q = g.ins.toNat - i ∧ i ≤ g.ins.toNat ∧ ∃ F oc kn, s' = nf 131 F oc [(2, .ptr 1002 ((o 1002).gen + 1) 0), (3, .ptr 1003 ((o 1003).gen + 1) 0), (4, .ptr 1004 ((o 1004).gen + 1) 0), (6, .row 10000 kr), (12, .row 10001 kn), (13, .t (.i .i64 i))] [(1002, ⟨((o 1002).gen + 1), .cells 55 [.t (.i .i64 (u.v + g.ins + g.ands.length)), .row 901 nc, .row 902 n2]⟩), (1003, ⟨((o 1003).gen + 1), .cells 25 g.cells⟩), (1004, ⟨((o 1004).gen + 1), .cells 55 [.t (.i .i64 0), .nilS, .nilS]⟩), (901, ⟨nc, .rowA 103 1 (aC (u.cls ++ clsA g u.v (nowA g u.v u.f g.ands.length) g.ands.length))⟩), (902, ⟨n2, .rowA 22 1 l2⟩), (10000, ⟨kr, .row 3 1 (iC (mk (firstN g + g.ands.length) (nowA g u.v u.f g.ands.length)))⟩), (10001, ⟨kn, .row 3 1 (iC (mk (1 + i) (nextF g (nowA g u.v u.f g.ands.length) 0)))⟩)] ∧ Fr 1000 o oc [901, 902, 10000, 10001]) g.ins.toNat ?_ ?_
  · exact ⟨0, by omega, by omega, _, _, _, nf_of rfl ⟨rfl, rfl, rfl, rfl, rfl, rfl, trivial⟩ ⟨rfl, rfl, rfl, rfl, rfl, rfl, rfl, trivial⟩, fr_next hF rfl⟩
  clear hF F oc
  rintro q s' ⟨i, rfl, hi, F, oc, kn, rfl, hF⟩
  have hl1 : (iC (mk (1 + i) (nextF g (nowA g u.v u.f g.ands.length) 0))).length = 1 + i := by rw [iC_len, mk_len]
  simp only [G.cells, iL, pL]
  repeat' first | refine c_seq ?_ | refine c_reg' rfl fun K hK => ?_ | (refine r_opN fun κ η => ?_; simp only [go_sem, Nat.reduceLT, Nat.reduceEqDiff, Nat.reduceAdd, Nat.reduceMul, Nat.reduceLeDiff, Nat.le_refl, reduceIte, reduceCtorEq]; (repeat refine ⟨by omega, ?_⟩); refine η _ ?_; clear η κ) | (refine r_nil (hK _ ?_); clear hK K) | refine q_seq ?_
  refine c_cond _ rfl (fun hq => ?_) (fun hq => ?_)
  · simp only [decide_eq_true_eq] at hq
    have hs := next_row0 g (nowA g u.v u.f g.ands.length) i
    repeat' first | refine c_seq ?_ | refine c_block ?_ | refine c_reg' rfl fun K hK => ?_ | (refine r_opN fun κ η => ?_; simp only [go_sem, Nat.reduceLT, Nat.reduceEqDiff, Nat.reduceAdd, Nat.reduceMul, Nat.reduceLeDiff, Nat.le_refl, reduceIte, reduceCtorEq]; (repeat refine ⟨by omega, ?_⟩); refine η _ ?_; clear η κ) | (refine r_nil (hK _ ?_); clear hK K) | refine q_seq ?_ | refine q_blk ?_ | refine c_skip ?_ | refine q_lpN ?_
    exact ⟨g.ins.toNat - (i + 1), by omega, i + 1, rfl, by omega, _, _, _, nf_of rfl ⟨rfl, rfl, rfl, rfl, rfl, rfl, trivial⟩ ⟨rfl, rfl, rfl, rfl, rfl, rfl, by rw [hs]; rfl, trivial⟩, fr_next hF rfl⟩
  simp only [decide_eq_false_iff_not] at hq
  obtain rfl : i = g.ins.toNat := by omega
  clear hi hq hl1
  repeat' first | refine c_seq ?_ | refine c_block ?_ | refine c_reg' rfl fun K hK => ?_ | (refine r_opN fun κ η => ?_; simp only [go_sem, Nat.reduceLT, Nat.reduceEqDiff, Nat.reduceAdd, Nat.reduceMul, Nat.reduceLeDiff, Nat.le_refl, reduceIte, reduceCtorEq]; refine η _ ?_; clear η κ) | (refine r_nil (hK _ ?_); clear hK K) | refine q_seq ?_ | refine c_exit ?_ | refine q_seqE ?_ | refine q_blkHit ?_ | refine q_lpE ?_
  refine c_loop (fun q s' => ∃ i : Nat, q = g.next.length - i ∧ i ≤ g.next.length ∧ ∃ F oc kn, s' = nf 131 F oc [(2, .ptr 1002 ((o 1002).gen + 1) 0), (3, .ptr 1003 ((o 1003).gen + 1) 0), (4, .ptr 1004 ((o 1004).gen + 1) 0), (6, .row 10000 kr), (12, .row 10001 kn), (14, .t (.i .i64 i))] [(1002, ⟨((o 1002).gen + 1), .cells 55 [.t (.i .i64 (u.v + g.ins + g.ands.length)), .row 901 nc, .row 902 n2]⟩), (1003, ⟨((o 1003).gen + 1), .cells 25 g.cells⟩), (1004, ⟨((o 1004).gen + 1), .cells 55 [.t (.i .i64 0), .nilS, .nilS]⟩), (901, ⟨nc, .rowA 103 1 (aC (u.cls ++ clsA g u.v (nowA g u.v u.f g.ands.length) g.ands.length))⟩), (902, ⟨n2, .rowA 22 1 l2⟩), (10000, ⟨kr, .row 3 1 (iC (mk (firstN g + g.ands.length) (nowA g u.v u.f g.ands.length)))⟩), (10001, ⟨kn, .row 3 1 (iC (mk (1 + g.ins.toNat + i) (nextF g (nowA g u.v u.f g.ands.length) i)))⟩)] ∧ Fr 1000 o oc [901, 902, 10000, 10001]) g.next.length ?_ ?_
  · exact ⟨0, by omega, by omega, _, _, _, nf_of rfl ⟨rfl, rfl, rfl, rfl, rfl, rfl, trivial⟩ ⟨rfl, rfl, rfl, rfl, rfl, rfl, rfl, trivial⟩, fr_next hF rfl⟩
  clear hF F oc
  rintro q s' ⟨i, rfl, hi, F, oc, kn, rfl, hF⟩
  have hl1 : (iC (mk (1 + g.ins.toNat + i) (nextF g (nowA g u.v u.f g.ands.length) i))).length = 1 + g.ins.toNat + i := by rw [iC_len, mk_len]
  simp only [G.cells, iL, pL]
  repeat' first | refine c_seq ?_ | refine c_reg' rfl fun K hK => ?_ | (refine r_opN fun κ η => ?_; simp only [go_sem, Nat.reduceLT, Nat.reduceEqDiff, Nat.reduceAdd, Nat.reduceMul, Nat.reduceLeDiff, Nat.le_refl, reduceIte, reduceCtorEq]; (repeat refine ⟨by omega, ?_⟩); refine η _ ?_; clear η κ) | (refine r_nil (hK _ ?_); clear hK K) | refine q_seq ?_
  refine c_cond _ rfl (fun hq => ?_) (fun hq => ?_)
  · simp only [decide_eq_true_eq] at hq
    obtain ⟨x, hx⟩ : ∃ x, g.next[i]? = some x := ⟨_, List.getElem?_eq_getElem (by omega)⟩
    obtain ⟨p1, p2, p3⟩ := hg.nx x (List.mem_of_getElem? hx)
    have hxx : inW (mk (firstN g + g.ands.length) (nowA g u.v u.f g.ands.length)) x = inF (nowA g u.v u.f g.ands.length) x := inW_mk (by omega)
    have hs := next_row g (nowA g u.v u.f g.ands.length) i hx
    repeat' first | refine c_seq ?_ | refine c_block ?_ | refine c_reg' rfl fun K hK => ?_ | (refine r_opN fun κ η => ?_; simp only [go_sem, Nat.reduceLT, Nat.reduceEqDiff, Nat.reduceAdd, Nat.reduceMul, Nat.reduceLeDiff, Nat.le_refl, reduceIte, reduceCtorEq, hx]; (repeat refine ⟨by omega, ?_⟩); refine η _ ?_; clear η κ) | refine q_seq ?_ | refine c_skip ?_
    refine r_opN fun κ η => ?_; simp only [go_sem, Nat.reduceLT, Nat.reduceEqDiff, Nat.reduceAdd, Nat.reduceMul, Nat.reduceLeDiff, Nat.le_refl, reduceIte, reduceCtorEq, hx, hxx]; refine ⟨_, rin_ct Hy (mk (firstN g + g.ands.length) (nowA g u.v u.f g.ands.length)) x ⟨p1, by rw [mk_len]; omega, by omega⟩, ?_⟩; simp only [go_sem, Nat.reduceLT, Nat.reduceEqDiff, Nat.reduceAdd, Nat.reduceMul, Nat.reduceLeDiff, Nat.le_refl, reduceIte, reduceCtorEq, hx, hxx]; refine η _ ?_; clear η κ
    repeat' first | refine c_reg' rfl fun K hK => ?_ | (refine r_opN fun κ η => ?_; simp only [go_sem, Nat.reduceLT, Nat.reduceEqDiff, Nat.reduceAdd, Nat.reduceMul, Nat.reduceLeDiff, Nat.le_refl, reduceIte, reduceCtorEq]; (repeat refine ⟨by omega, ?_⟩); refine η _ ?_; clear η κ) | (refine r_nil (hK _ ?_); clear hK K) | refine q_seq ?_ | refine q_blk ?_ | refine q_lpN ?_
    exact ⟨g.next.length - (i + 1), by omega, i + 1, rfl, by omega, _, _, _, nf_of rfl ⟨rfl, rfl, rfl, rfl, rfl, rfl, trivial⟩ ⟨rfl, rfl, rfl, rfl, rfl, rfl, by rw [hs]; rfl, trivial⟩, fr_next hF rfl⟩
  simp only [decide_eq_false_iff_not] at hq
  obtain rfl : i = g.next.length := by omega
  have hfn : 1 + g.ins.toNat + g.next.length = firstN g := by unfold firstN; omega
  rw [hfn]
  repeat' first | refine c_seq ?_ | refine c_reg' rfl fun K hK => ?_ | (refine r_opN fun κ η => ?_; simp only [go_sem, Nat.reduceLT, Nat.reduceEqDiff, Nat.reduceAdd, Nat.reduceMul, Nat.reduceLeDiff, Nat.le_refl, reduceIte, reduceCtorEq]; (repeat refine ⟨by omega, ?_⟩); refine η _ ?_; clear η κ) | (refine r_nil (hK _ ?_); clear hK K) | refine q_seq ?_ | refine c_exit ?_ | refine c_ret ?_ | refine q_seqE ?_ | refine q_blkHit ?_ | refine q_lpE ?_ | (refine q_ret ?_; refine q_rc ?_; simp only [go_sem, Nat.reduceLT, Nat.reduceEqDiff, Nat.reduceAdd, Nat.reduceMul, Nat.reduceLeDiff, Nat.le_refl, reduceIte, reduceCtorEq])
  refine ⟨_, _, kn, kr, rfl, rfl, ?_, ?_, rfl, fr_next hF rfl⟩
  · have : l2 ++ [[A.row 10001 kn]] = (u.rows.map fun r => [A.t (iL r)]) ++ [.row 10000 kr] :: [[A.row 10001 kn]] := by rw [hl2e]; simp
    exact congrArg (fun l => (⟨_, .rowA 22 1 l⟩ : O)) this
  · rw [hNN]
end Go.Proofs.Ytpbfkpdfodmcaaa
namespace Go.Proofs.Ytpbfkpdfodmcaaa
open Go.RowKit
set_option maxRecDepth 100000
set_option linter.unusedSimpArgs false
variable (Hy : World → Prop)
attribute [local irreducible] runM runD cwp seqQ blkQ lpQ retQ
set_option maxHeartbeats 8000000 in
theorem rstep1_cm (g : G) (u : Us) (o : Nat → O) {n1 n2 kk N : Nat} (hg : GOk g N) (hS : u.v ≤ 500000 ∧ 1 ≤ u.v ∧ u.rows.length ≤ 90 ∧ u.cls.length ≤ 800000) (hU : RU g u 10001 n1 n2 kk o) :
    Cm Try.prog Hy 95 [.ag [.t (.i .i64 u.v), .row 901 n1, .row 902 n2], .ag g.cells] o fun rs o' => ∃ m1 m2 k2, rs = [.ag [.t (.i .i64 (unNext g u).v), .row 901 m1, .row 902 m2]] ∧ RU g (unNext g u) 10000 m1 m2 k2 o' ∧ Fr 1000 o o' [901, 902, 10000, 10001] := by
  have hN := hg.hN
  have hg0 := hg.i0
  have hle := hg.le
  obtain ⟨v1, v2, v3, v4⟩ := hS
  have hNf : N = firstN g + g.ands.length := by unfold firstN; omega
  have hNN : g.N = firstN g + g.ands.length := by unfold firstN G.N; omega
  have hM1 : 1 + g.ins.toNat ≤ firstN g := by unfold firstN; omega
  refine Cm.settle (R := fun rs o' => ∃ m1 m2 k2 kr, rs = [.ag [.t (.i .i64 (unNext g u).v), .row 901 m1, .row 902 m2]] ∧ o' 901 = ⟨m1, .rowA 103 1 (aC (unNext g u).cls)⟩ ∧
      o' 902 = ⟨m2, .rowA 22 1 ((u.rows.map fun r => [A.t (iL r)]) ++ [.row 10001 kr] :: [[.row 10000 k2]])⟩ ∧ o' 10001 = ⟨kr, .row 3 1 (iC (mk g.N (nowA g u.v u.f g.ands.length)))⟩ ∧ o' 10000 = ⟨k2, .row 3 1 (iC (mk (firstN g) (unNext g u).f))⟩ ∧ Fr 1000 o o' [901, 902, 10000, 10001]) ?_ ?_
  rotate_left
  · rintro rs o' ⟨m1, m2, k2, kr, h1, h2, h3, h4, h5, h6⟩
    obtain ⟨o2, s1, s2, _, s4⟩ := settle_mid h3 h4 (by decide)
    refine ⟨o2, s1, m1, m2, k2, h1, ⟨(s4 _ (by decide) (by decide)).trans h2, ?_, (s4 _ (by decide) (by decide)).trans h5⟩, fun i hi hS => ?_⟩
    · rw [s2]
      simp [unNext, iL_eq]
    · rw [s4 i (fun e => hS (by simp [e])) (fun e => hS (by simp [e])), h6 i hi hS]
  obtain ⟨hcl, hlt, hrw⟩ := hU
  obtain ⟨lr, hlr⟩ : ∃ lr, lr = (u.rows.map fun r => [A.t (iL r)]) ++ [[A.row 10001 kk]] := ⟨_, rfl⟩
  have hlrl : lr.length = u.rows.length + 1 := by rw [hlr]; simp
  have hlrg : lr[u.rows.length]? = some [A.row 10001 kk] := by rw [hlr]; simp
  have hM : ((lr.length : Int) - 1).toNat = u.rows.length := by omega
  rw [← hlr] at hlt
  refine cm_of (cls := fun d => if d = 97 then 10000 else 1000 + d) tt_ok follows_ Try.func95 rfl (by decide) (Nat.le_of_ble_eq_true rfl) ?_
  rw [show Try.f95.ntmps = 131 from rfl, s0_nf]
  simp only [List.zipIdx_cons, List.zipIdx_nil, List.map_cons, List.map_nil, Nat.reduceAdd, G.cells, iL, pL]
  repeat' first | refine c_seq ?_ | refine c_block ?_ | refine c_reg' rfl fun K hK => ?_ | (refine r_opN fun κ η => ?_; simp only [go_sem, Nat.reduceLT, Nat.reduceEqDiff, Nat.reduceAdd, Nat.reduceMul, Nat.reduceLeDiff, Nat.le_refl, reduceIte, reduceCtorEq, hcl, hlt, hM, hlrg]; (repeat refine ⟨by omega, ?_⟩); refine η _ ?_; clear η κ) | (refine r_nil (hK _ ?_); clear hK K) | refine q_seq ?_
  refine c_loop (fun q s' => ∃ i : Nat, q = g.ins.toNat - i ∧ i ≤ g.ins.toNat ∧ ∃ F oc, s' = nf 131 F oc [(2, .ptr 1002 ((o 1002).gen + 1) 0), (3, .ptr 1003 ((o 1003).gen + 1) 0), (4, .ptr 1004 ((o 1004).gen + 1) 0), (5, .t (.i .i64 ((lr.length : Int) - 1))), (6, .row 10001 kk), (7, .t (.i .i64 i))] [(1002, ⟨((o 1002).gen + 1), .cells 55 [.t (.i .i64 (u.v + i)), .row 901 n1, .row 902 n2]⟩), (1003, ⟨((o 1003).gen + 1), .cells 25 g.cells⟩), (1004, ⟨((o 1004).gen + 1), .cells 55 [.t (.i .i64 0), .nilS, .nilS]⟩), (901, ⟨n1, .rowA 103 1 (aC (u.cls))⟩), (902, ⟨n2, .rowA 22 1 lr⟩), (10001, ⟨kk, .row 3 1 (iC (mk (firstN g) (nowI u.v u.f i)))⟩)] ∧ Fr 1000 o oc [901, 902, 10000, 10001]) g.ins.toNat ?_ ?_
  · refine ⟨0, by omega, by omega, _, _, nf_of rfl ⟨rfl, rfl, rfl, rfl, rfl, rfl, trivial⟩ ⟨?_, rfl, rfl, hcl, hlt, ?_, trivial⟩, fr_nf rfl⟩
    · rw [show u.v + ((0 : Nat) : Int) = u.v from Int.add_zero _]
      rfl
    · rw [nowI_zero]
      exact hrw
  rintro q s' ⟨i, rfl, hi, F, oc, rfl, hF⟩
  simp only [G.cells, iL, pL]
  repeat' first | refine c_seq ?_ | refine c_reg' rfl fun K hK => ?_ | (refine r_opN fun κ η => ?_; simp only [go_sem, Nat.reduceLT, Nat.reduceEqDiff, Nat.reduceAdd, Nat.reduceMul, Nat.reduceLeDiff, Nat.le_refl, reduceIte, reduceCtorEq]; (repeat refine ⟨by omega, ?_⟩); refine η _ ?_; clear η κ) | (refine r_nil (hK _ ?_); clear hK K) | refine q_seq ?_
  refine c_cond _ rfl (fun hq => ?_) (fun hq => ?_)
  · simp only [decide_eq_true_eq] at hq
    have hp : (1 + (i : Int)).toNat = 1 + i := by omega
    have hget := iC_get (mk_get (n := firstN g) (f := nowI u.v u.f i) (show 1 + i < firstN g by omega))
    have hlen : (iC (mk (firstN g) (nowI u.v u.f i))).length = firstN g := by rw [iC_len, mk_len]
    have hset : (iC (mk (firstN g) (nowI u.v u.f i))).set (1 + i) [.i .i64 (u.v + i + 1)] = iC (mk (firstN g) (nowI u.v u.f (i + 1))) := by
      rw [iC_set, mk_set, ← nowI_succ, Int.add_assoc]
    repeat' first | refine c_seq ?_ | refine c_block ?_ | refine c_reg' rfl fun K hK => ?_ | (refine r_opN fun κ η => ?_; simp only [go_sem, Nat.reduceLT, Nat.reduceEqDiff, Nat.reduceAdd, Nat.reduceMul, Nat.reduceLeDiff, Nat.le_refl, reduceIte, reduceCtorEq, hp, hget, hlen, hset]; (repeat refine ⟨by omega, ?_⟩); refine η _ ?_; clear η κ) | (refine r_nil (hK _ ?_); clear hK K) | refine q_seq ?_ | refine q_blk ?_ | refine c_skip ?_ | refine q_lpN ?_
    exact ⟨g.ins.toNat - (i + 1), by omega, i + 1, rfl, by omega, _, _, nf_of rfl ⟨rfl, rfl, rfl, rfl, rfl, rfl, trivial⟩ ⟨by rw [show u.v + ((i + 1 : Nat) : Int) = u.v + i + 1 by omega]; rfl, rfl, rfl, rfl, rfl, rfl, trivial⟩, fr_next hF rfl⟩
  simp only [decide_eq_false_iff_not] at hq
  obtain rfl : i = g.ins.toNat := by omega
  rw [show u.v + ((g.ins.toNat : Nat) : Int) = u.v + g.ins by omega]
  repeat' first | refine c_seq ?_ | refine c_block ?_ | refine c_reg' rfl fun K hK => ?_ | (refine r_opN fun κ η => ?_; simp only [go_sem, Nat.reduceLT, Nat.reduceEqDiff, Nat.reduceAdd, Nat.reduceMul, Nat.reduceLeDiff, Nat.le_refl, reduceIte, reduceCtorEq]; refine η _ ?_; clear η κ) | (refine r_nil (hK _ ?_); clear hK K) | refine q_seq ?_ | refine c_exit ?_ | refine q_seqE ?_ | refine q_blkHit ?_ | refine q_lpE ?_
  refine c_loop (fun q s' => ∃ i : Nat, q = g.ands.length - i ∧ i ≤ g.ands.length ∧ ∃ F oc nc kr, s' = nf 131 F oc [(2, .ptr 1002 ((o 1002).gen + 1) 0), (3, .ptr 1003 ((o 1003).gen + 1) 0), (4, .ptr 1004 ((o 1004).gen + 1) 0), (5, .t (.i .i64 ((lr.length : Int) - 1))), (6, .row 10001 kr), (8, .t (.i .i64 i))] [(1002, ⟨((o 1002).gen + 1), .cells 55 [.t (.i .i64 (u.v + g.ins + i)), .row 901 nc, .row 902 n2]⟩), (1003, ⟨((o 1003).gen + 1), .cells 25 g.cells⟩), (1004, ⟨((o 1004).gen + 1), .cells 55 [.t (.i .i64 0), .nilS, .nilS]⟩), (901, ⟨nc, .rowA 103 1 (aC (u.cls ++ clsA g u.v (nowA g u.v u.f g.ands.length) i))⟩), (902, ⟨n2, .rowA 22 1 lr⟩), (10001, ⟨kr, .row 3 1 (iC (mk (firstN g + i) (nowA g u.v u.f i)))⟩)] ∧ Fr 1000 o oc [901, 902, 10000, 10001]) g.ands.length ?_ ?_
  · refine ⟨0, by omega, by omega, _, _, n1, kk, nf_of rfl ⟨rfl, rfl, rfl, rfl, rfl, rfl, trivial⟩ ⟨?_, rfl, rfl, ?_, rfl, ?_, trivial⟩, fr_next hF rfl⟩
    · rw [show u.v + g.ins + ((0 : Nat) : Int) = u.v + g.ins from Int.add_zero _]
      rfl
    · rw [show u.cls ++ clsA g u.v (nowA g u.v u.f g.ands.length) 0 = u.cls from by simp [clsA]]
      rfl
    · rw [nowA_zero]
      rfl
  clear hF hi hq F oc
  rintro q s' ⟨i, rfl, hi, F, oc, nc, kr, rfl, hF⟩
  simp only [G.cells, iL, pL]
  repeat' first | refine c_seq ?_ | refine c_reg' rfl fun K hK => ?_ | (refine r_opN fun κ η => ?_; simp only [go_sem, Nat.reduceLT, Nat.reduceEqDiff, Nat.reduceAdd, Nat.reduceMul, Nat.reduceLeDiff, Nat.le_refl, reduceIte, reduceCtorEq]; (repeat refine ⟨by omega, ?_⟩); refine η _ ?_; clear η κ) | (refine r_nil (hK _ ?_); clear hK K) | refine q_seq ?_
  refine c_cond _ rfl (fun hq => ?_) (fun hq => ?_)
  · simp only [decide_eq_true_eq] at hq
    obtain ⟨a, ha⟩ : ∃ a, g.ands[i]? = some a := ⟨_, List.getElem?_eq_getElem (by omega)⟩
    obtain ⟨⟨p1, p2, p3⟩, ⟨p4, p5, p6⟩⟩ := hg.an i a ha
    have hx : inW (mk (firstN g + i) (nowA g u.v u.f i)) a.1 = inF (nowA g u.v u.f g.ands.length) a.1 := by rw [inW_mk (by omega), nowA_in g u.v u.f (show i ≤ g.ands.length by omega) (by omega)]
    have hy : inW (mk (firstN g + i) (nowA g u.v u.f i)) a.2 = inF (nowA g u.v u.f g.ands.length) a.2 := by rw [inW_mk (by omega), nowA_in g u.v u.f (show i ≤ g.ands.length by omega) (by omega)]
    have hcln := clsA_len g u.v (nowA g u.v u.f g.ands.length) i
    have hll : (aC (u.cls ++ clsA g u.v (nowA g u.v u.f g.ands.length) i)).length ≤ 900000 := by rw [aC, List.length_map, List.length_append, hcln]; omega
    have hrl : (iC (mk (firstN g + i) (nowA g u.v u.f i))).length = firstN g + i := by rw [iC_len, mk_len]
    have hcs := clsA_succ g u.v (nowA g u.v u.f g.ands.length) ha
    rw [show u.v + g.ins + 1 + (i : Int) = u.v + g.ins + i + 1 by omega] at hcs
    have hcm : (aC (u.cls ++ clsA g u.v (nowA g u.v u.f g.ands.length) (i + 1))) = (aC (u.cls ++ clsA g u.v (nowA g u.v u.f g.ands.length) i)) ++ [[.t (iL [negW (u.v + g.ins + i + 1), inF (nowA g u.v u.f g.ands.length) a.1])], [.t (iL [negW (u.v + g.ins + i + 1), inF (nowA g u.v u.f g.ands.length) a.2])], [.t (iL [u.v + g.ins + i + 1, negW (inF (nowA g u.v u.f g.ands.length) a.1), negW (inF (nowA g u.v u.f g.ands.length) a.2)])]] := by
      rw [hcs]
      simp [andCl, aC]
    have hw : ∀ x, IntKind.wrap .i64 (0 - x) = negW x := fun _ => rfl
    have hrs := nowA_row g u.v u.f i
    generalize (aC (u.cls ++ clsA g u.v (nowA g u.v u.f g.ands.length) i)) = cm at *
    repeat' first | refine c_seq ?_ | refine c_block ?_ | refine c_reg' rfl fun K hK => ?_ | (refine r_opN fun κ η => ?_; simp only [go_sem, Nat.reduceLT, Nat.reduceEqDiff, Nat.reduceAdd, Nat.reduceMul, Nat.reduceLeDiff, Nat.le_refl, reduceIte, reduceCtorEq, ha]; (repeat refine ⟨by omega, ?_⟩); refine η _ ?_; clear η κ) | (refine r_nil (hK _ ?_); clear hK K) | refine q_seq ?_ | refine c_skip ?_
    refine r_opN fun κ η => ?_; simp only [go_sem, Nat.reduceLT, Nat.reduceEqDiff, Nat.reduceAdd, Nat.reduceMul, Nat.reduceLeDiff, Nat.le_refl, reduceIte, reduceCtorEq, ha, hx]; refine ⟨_, rin_ct Hy (mk (firstN g + i) (nowA g u.v u.f i)) a.1 ⟨p1, by rw [mk_len]; omega, by omega⟩, ?_⟩; simp only [go_sem, Nat.reduceLT, Nat.reduceEqDiff, Nat.reduceAdd, Nat.reduceMul, Nat.reduceLeDiff, Nat.le_refl, reduceIte, reduceCtorEq, ha, hx]; refine η _ ?_; clear η κ
    repeat' first | refine c_seq ?_ | refine c_reg' rfl fun K hK => ?_ | (refine r_opN fun κ η => ?_; simp only [go_sem, Nat.reduceLT, Nat.reduceEqDiff, Nat.reduceAdd, Nat.reduceMul, Nat.reduceLeDiff, Nat.le_refl, reduceIte, reduceCtorEq, ha]; (repeat refine ⟨by omega, ?_⟩); refine η _ ?_; clear η κ) | (refine r_nil (hK _ ?_); clear hK K) | refine q_seq ?_
    refine r_opN fun κ η => ?_; simp only [go_sem, Nat.reduceLT, Nat.reduceEqDiff, Nat.reduceAdd, Nat.reduceMul, Nat.reduceLeDiff, Nat.le_refl, reduceIte, reduceCtorEq, ha, hy]; refine ⟨_, rin_ct Hy (mk (firstN g + i) (nowA g u.v u.f i)) a.2 ⟨p4, by rw [mk_len]; omega, by omega⟩, ?_⟩; simp only [go_sem, Nat.reduceLT, Nat.reduceEqDiff, Nat.reduceAdd, Nat.reduceMul, Nat.reduceLeDiff, Nat.le_refl, reduceIte, reduceCtorEq, ha, hy]; refine η _ ?_; clear η κ
    repeat' first | (refine r_opN fun κ η => ?_; simp only [go_sem, Nat.reduceLT, Nat.reduceEqDiff, Nat.reduceAdd, Nat.reduceMul, Nat.reduceLeDiff, Nat.le_refl, reduceIte, reduceCtorEq, hw, hll]; refine η _ ?_; clear η κ) | (refine r_nil (hK _ ?_); clear hK K)
    refine q_seq ?_
    repeat' first | refine c_seq ?_ | refine c_reg' rfl fun K hK => ?_ | (refine r_opN fun κ η => ?_; simp only [go_sem, Nat.reduceLT, Nat.reduceEqDiff, Nat.reduceAdd, Nat.reduceMul, Nat.reduceLeDiff, Nat.le_refl, reduceIte, reduceCtorEq, hw, hll]; (repeat refine ⟨by omega, ?_⟩); refine η _ ?_; clear η κ) | (refine r_nil (hK _ ?_); clear hK K)
    refine q_three (L := 901) (a := 1074) (b := 1078) (c := 1084) (m := cm) (by exact rfl) (by exact rfl) (by exact rfl) (by exact rfl) (by decide) fun o2 t2 t3 => ?_
    have e2 : o2 1002 = ⟨((o 1002).gen + 1), .cells 55 [.t (.i .i64 (u.v + g.ins + i + 1)), .row 901 (nc + 1), .row 902 n2]⟩ := t3 1002 (by decide) (by decide) (by decide) (by decide)
    have eR : o2 10001 = ⟨kr, .row 3 1 (iC (mk (firstN g + i) (nowA g u.v u.f i)))⟩ := t3 10001 (by decide) (by decide) (by decide) (by decide)
    have hF2 : Fr 1000 o o2 [901, 902, 10000, 10001] := fun j hj hS => by
      simp only [List.mem_cons, List.not_mem_nil, or_false, not_or] at hS
      rw [t3 j (by omega) (by omega) (by omega) (by omega)]
      exact fr_next (S := [901, 902, 10000, 10001]) hF rfl j hj (by simp; omega)
    repeat' first | refine c_reg' rfl fun K hK => ?_ | (refine r_opN fun κ η => ?_; simp only [go_sem, Nat.reduceLT, Nat.reduceEqDiff, Nat.reduceAdd, Nat.reduceMul, Nat.reduceLeDiff, Nat.le_refl, reduceIte, reduceCtorEq, eR, hrl]; (repeat refine ⟨by omega, ?_⟩); refine η _ ?_; clear η κ) | (refine r_nil (hK _ ?_); clear hK K) | refine q_seq ?_ | refine q_blk ?_ | refine q_lpN ?_
    exact ⟨g.ands.length - (i + 1), by omega, i + 1, rfl, by omega, _, _, _, _, nf_of rfl ⟨rfl, rfl, rfl, rfl, rfl, rfl, trivial⟩ ⟨by rw [show u.v + g.ins + ((i + 1 : Nat) : Int) = u.v + g.ins + i + 1 by omega]; exact e2, t3 1003 (by decide) (by decide) (by decide) (by decide), t3 1004 (by decide) (by decide) (by decide) (by decide), by rw [hcm]; exact t2, t3 902 (by decide) (by decide) (by decide) (by decide), by rw [hrs]; rfl, trivial⟩, fr_next hF2 rfl⟩
  simp only [decide_eq_false_iff_not] at hq
  obtain rfl : i = g.ands.length := by omega
  clear hi hq
  have hset : lr.set u.rows.length [A.row 10001 kr] = (u.rows.map fun r => [A.t (iL r)]) ++ [[A.row 10001 kr]] := by
    rw [hlr, List.set_append_right _ _ (by simp)]
    simp
  repeat' first | refine c_seq ?_ | refine c_block ?_ | refine c_reg' rfl fun K hK => ?_ | (refine r_opN fun κ η => ?_; simp only [go_sem, Nat.reduceLT, Nat.reduceEqDiff, Nat.reduceAdd, Nat.reduceMul, Nat.reduceLeDiff, Nat.le_refl, reduceIte, reduceCtorEq, hM, hlrg, hset]; (repeat refine ⟨by omega, ?_⟩); refine η _ ?_; clear η κ) | (refine r_nil (hK _ ?_); clear hK K) | refine q_seq ?_ | refine c_exit ?_ | refine q_seqE ?_ | refine q_blkHit ?_ | refine q_lpE ?_
  have hl2 : ((u.rows.map fun r => [A.t (iL r)]) ++ [[A.row 10001 kr]]).length = u.rows.length + 1 := by simp
  obtain ⟨l2, hl2e⟩ : ∃ l2, l2 = (u.rows.map fun r => [A.t (iL r)]) ++ [[A.row 10001 kr]] := ⟨_, rfl⟩
  rw [← hl2e] at hl2 ⊢
  refine c_loop (fun q s' => ∃ i : Nat, q = g.ins.toNat - i ∧ i ≤ g.ins.toNat ∧ ∃ F oc kn, s' = nf 131 F oc [(2, .ptr 1002 ((o 1002).gen + 1) 0), (3, .ptr 1003 ((o 1003).gen + 1) 0), (4, .ptr 1004 ((o 1004).gen + 1) 0), (6, .row 10001 kr), (12, .row 10000 kn), (13, .t (.i .i64 i))] [(1002, ⟨((o 1002).gen + 1), .cells 55 [.t (.i .i64 (u.v + g.ins + g.ands.length)), .row 901 nc, .row 902 n2]⟩), (1003, ⟨((o 1003).gen + 1), .cells 25 g.cells⟩), (1004, ⟨((o 1004).gen + 1), .cells 55 [.t (.i .i64 0), .nilS, .nilS]⟩), (901, ⟨nc, .rowA 103 1 (aC (u.cls ++ clsA g u.v (nowA g u.v u.f g.ands.length) g.ands.length))⟩), (902, ⟨n2, .rowA 22 1 l2⟩), (10001, ⟨kr, .row 3 1 (iC (mk (firstN g + g.ands.length) (nowA g u.v u.f g.ands.length)))⟩), (10000, ⟨kn, .row 3 1 (iC (mk (1 + i) (nextF g (nowA g u.v u.f g.ands.length) 0)))⟩)] ∧ Fr 1000 o oc [901, 902, 10000, 10001]) g.ins.toNat ?_ ?_
  · exact ⟨0, by omega, by omega, _, _, _, nf_of rfl ⟨rfl, rfl, rfl, rfl, rfl, rfl, trivial⟩ ⟨rfl, rfl, rfl, rfl, rfl, rfl, rfl, trivial⟩, fr_next hF rfl⟩
  clear hF F oc
  rintro q s' ⟨i, rfl, hi, F, oc, kn, rfl, hF⟩
  have hl1 : (iC (mk (1 + i) (nextF g (nowA g u.v u.f g.ands.length) 0))).length = 1 + i := by rw [iC_len, mk_len]
  simp only [G.cells, iL, pL]
  repeat' first | refine c_seq ?_ | refine c_reg' rfl fun K hK => ?_ | (refine r_opN fun κ η => ?_; simp only [go_sem, Nat.reduceLT, Nat.reduceEqDiff, Nat.reduceAdd, Nat.reduceMul, Nat.reduceLeDiff, Nat.le_refl, reduceIte, reduceCtorEq]; (repeat refine ⟨by omega, ?_⟩); refine η _ ?_; clear η κ) | (refine r_nil (hK _ ?_); clear hK K) | refine q_seq ?_
  refine c_cond _ rfl (fun hq => ?_) (fun hq => ?_)
  · simp only [decide_eq_true_eq] at hq
    have hs := next_row0 g (nowA g u.v u.f g.ands.length) i
    repeat' first | refine c_seq ?_ | refine c_block ?_ | refine c_reg' rfl fun K hK => ?_ | (refine r_opN fun κ η => ?_; simp only [go_sem, Nat.reduceLT, Nat.reduceEqDiff, Nat.reduceAdd, Nat.reduceMul, Nat.reduceLeDiff, Nat.le_refl, reduceIte, reduceCtorEq]; (repeat refine ⟨by omega, ?_⟩); refine η _ ?_; clear η κ) | (refine r_nil (hK _ ?_); clear hK K) | refine q_seq ?_ | refine q_blk ?_ | refine c_skip ?_ | refine q_lpN ?_
    exact ⟨g.ins.toNat - (i + 1), by omega, i + 1, rfl, by omega, _, _, _, nf_of rfl ⟨rfl, rfl, rfl, rfl, rfl, rfl, trivial⟩ ⟨rfl, rfl, rfl, rfl, rfl, rfl, by rw [hs]; rfl, trivial⟩, fr_next hF rfl⟩
  simp only [decide_eq_false_iff_not] at hq
  obtain rfl : i = g.ins.toNat := by omega
  clear hi hq hl1
  repeat' first | refine c_seq ?_ | refine c_block ?_ | refine c_reg' rfl fun K hK => ?_ | (refine r_opN fun κ η => ?_; simp only [go_sem, Nat.reduceLT, Nat.reduceEqDiff, Nat.reduceAdd, Nat.reduceMul, Nat.reduceLeDiff, Nat.le_refl, reduceIte, reduceCtorEq]; refine η _ ?_; clear η κ) | (refine r_nil (hK _ ?_); clear hK K) | refine q_seq ?_ | refine c_exit ?_ | refine q_seqE ?_ | refine q_blkHit ?_ | refine q_lpE ?_
  refine c_loop (fun q s' => ∃ i : Nat, q = g.next.length - i ∧ i ≤ g.next.length ∧ ∃ F oc kn, s' = nf 131 F oc [(2, .ptr 1002 ((o 1002).gen + 1) 0), (3, .ptr 1003 ((o 1003).gen + 1) 0), (4, .ptr 1004 ((o 1004).gen + 1) 0), (6, .row 10001 kr), (12, .row 10000 kn), (14, .t (.i .i64 i))] [(1002, ⟨((o 1002).gen + 1), .cells 55 [.t (.i .i64 (u.v + g.ins + g.ands.length)), .row 901 nc, .row 902 n2]⟩), (1003, ⟨((o 1003).gen + 1), .cells 25 g.cells⟩), (1004, ⟨((o 1004).gen + 1), .cells 55 [.t (.i .i64 0), .nilS, .nilS]⟩), (901, ⟨nc, .rowA 103 1 (aC (u.cls ++ clsA g u.v (nowA g u.v u.f g.ands.length) g.ands.length))⟩), (902, ⟨n2, .rowA 22 1 l2⟩), (10001, ⟨kr, .row 3 1 (iC (mk (firstN g + g.ands.length) (nowA g u.v u.f g.ands.length)))⟩), (10000, ⟨kn, .row 3 1 (iC (mk (1 + g.ins.toNat + i) (nextF g (nowA g u.v u.f g.ands.length) i)))⟩)] ∧ Fr 1000 o oc [901, 902, 10000, 10001]) g.next.length ?_ ?_
  · exact ⟨0, by omega, by omega, _, _, _, nf_of rfl ⟨rfl, rfl, rfl, rfl, rfl, rfl, trivial⟩ ⟨rfl, rfl, rfl, rfl, rfl, rfl, rfl, trivial⟩, fr_next hF rfl⟩
  clear hF F oc
  rintro q s' ⟨i, rfl, hi, F, oc, kn, rfl, hF⟩
  have hl1 : (iC (mk (1 + g.ins.toNat + i) (nextF g (nowA g u.v u.f g.ands.length) i))).length = 1 + g.ins.toNat + i := by rw [iC_len, mk_len]
  simp only [G.cells, iL, pL]
  repeat' first | refine c_seq ?_ | refine c_reg' rfl fun K hK => ?_ | (refine r_opN fun κ η => ?_; simp only [go_sem, Nat.reduceLT, Nat.reduceEqDiff, Nat.reduceAdd, Nat.reduceMul, Nat.reduceLeDiff, Nat.le_refl, reduceIte, reduceCtorEq]; (repeat refine ⟨by omega, ?_⟩); refine η _ ?_; clear η κ) | (refine r_nil (hK _ ?_); clear hK K) | refine q_seq ?_
  refine c_cond _ rfl (fun hq => ?_) (fun hq => ?_)
  · simp only [decide_eq_true_eq] at hq
    obtain ⟨x, hx⟩ : ∃ x, g.next[i]? = some x := ⟨_, List.getElem?_eq_getElem (by omega)⟩
    obtain ⟨p1, p2, p3⟩ := hg.nx x (List.mem_of_getElem? hx)
    have hxx : inW (mk (firstN g + g.ands.length) (nowA g u.v u.f g.ands.length)) x = inF (nowA g u.v u.f g.ands.length) x := inW_mk (by omega)
    have hs := next_row g (nowA g u.v u.f g.ands.length) i hx
    repeat' first | refine c_seq ?_ | refine c_block ?_ | refine c_reg' rfl fun K hK => ?_ | (refine r_opN fun κ η => ?_; simp only [go_sem, Nat.reduceLT, Nat.reduceEqDiff, Nat.reduceAdd, Nat.reduceMul, Nat.reduceLeDiff, Nat.le_refl, reduceIte, reduceCtorEq, hx]; (repeat refine ⟨by omega, ?_⟩); refine η _ ?_; clear η κ) | refine q_seq ?_ | refine c_skip ?_
    refine r_opN fun κ η => ?_; simp only [go_sem, Nat.reduceLT, Nat.reduceEqDiff, Nat.reduceAdd, Nat.reduceMul, Nat.reduceLeDiff, Nat.le_refl, reduceIte, reduceCtorEq, hx, hxx]; refine ⟨_, rin_ct Hy (mk (firstN g + g.ands.length) (nowA g u.v u.f g.ands.length)) x ⟨p1, by rw [mk_len]; omega, by omega⟩, ?_⟩; simp only [go_sem, Nat.reduceLT, Nat.reduceEqDiff, Nat.reduceAdd, Nat.reduceMul, Nat.reduceLeDiff, Nat.le_refl, reduceIte, reduceCtorEq, hx, hxx]; refine η _ ?_; clear η κ
    repeat' first | refine c_reg' rfl fun K hK => ?_ | (refine r_opN fun κ η => ?_; simp only [go_sem, Nat.reduceLT, Nat.reduceEqDiff, Nat.reduceAdd, Nat.reduceMul, Nat.reduceLeDiff, Nat.le_refl, reduceIte, reduceCtorEq]; (repeat refine ⟨by omega, ?_⟩); refine η _ ?_; clear η κ) | (refine r_nil (hK _ ?_); clear hK K) | refine q_seq ?_ | refine q_blk ?_ | refine q_lpN ?_
    exact ⟨g.next.length - (i + 1), by omega, i + 1, rfl, by omega, _, _, _, nf_of rfl ⟨rfl, rfl, rfl, rfl, rfl, rfl, trivial⟩ ⟨rfl, rfl, rfl, rfl, rfl, rfl, by rw [hs]; rfl, trivial⟩, fr_next hF rfl⟩
  simp only [decide_eq_false_iff_not] at hq
  obtain rfl : i = g.next.length := by omega
  have hfn : 1 + g.ins.toNat + g.next.length = firstN g := by unfold firstN; omega
  rw [hfn]
  repeat' first | refine c_seq ?_ | refine c_reg' rfl fun K hK => ?_ | (refine r_opN fun κ η => ?_; simp only [go_sem, Nat.reduceLT, Nat.reduceEqDiff, Nat.reduceAdd, Nat.reduceMul, Nat.reduceLeDiff, Nat.le_refl, reduceIte, reduceCtorEq]; (repeat refine ⟨by omega, ?_⟩); refine η _ ?_; clear η κ) | (refine r_nil (hK _ ?_); clear hK K) | refine q_seq ?_ | refine c_exit ?_ | refine c_ret ?_ | refine q_seqE ?_ | refine q_blkHit ?_ | refine q_lpE ?_ | (refine q_ret ?_; refine q_rc ?_; simp only [go_sem, Nat.reduceLT, Nat.reduceEqDiff, Nat.reduceAdd, Nat.reduceMul, Nat.reduceLeDiff, Nat.le_refl, reduceIte, reduceCtorEq])
  refine ⟨_, _, kn, kr, rfl, rfl, ?_, ?_, rfl, fr_next hF rfl⟩
  · have : l2 ++ [[A.row 10000 kn]] = (u.rows.map fun r => [A.t (iL r)]) ++ [.row 10001 kr] :: [[A.row 10000 kn]] := by rw [hl2e]; simp
    exact congrArg (fun l => (⟨_, .rowA 22 1 l⟩ : O)) this
  · rw [hNN]
end Go.Proofs.Ytpbfkpdfodmcaaa
