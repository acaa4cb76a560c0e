import Derived.Test.YtpbfkpdfodmcaaaE1
namespace Go.Proofs.Ytpbfkpdfodmcaaa
open Go.RowKit
set_option maxRecDepth 100000
set_option linter.unusedSimpArgs false
variable (Hy : World → Prop)
attribute [local irreducible] runM runD cwp seqQ blkQ lpQ retQ
def firstN (g : G) : Nat := 1 + g.ins.toNat + g.next.length
def nowI (v : Int) (f : Nat → Int) (i j : Nat) : Int := if 1 ≤ j ∧ j < 1 + i then v + j else f j
def nowA (g : G) (v : Int) (f : Nat → Int) (i j : Nat) : Int := if firstN g ≤ j ∧ j < firstN g + i then v + g.ins + 1 + ((j - firstN g : Nat) : Int) else nowI v f g.ins.toNat j
def nextF (g : G) (F : Nat → Int) (i j : Nat) : Int := if j = 0 then -1 else if g.ins.toNat < j ∧ j < 1 + g.ins.toNat + i then inF F (g.next.getD (j - 1 - g.ins.toNat) 0) else 0
def andCl (F : Nat → Int) (w : Int) (a : Int × Int) : List (List Int) := [[negW w, inF F a.1], [negW w, inF F a.2], [w, negW (inF F a.1), negW (inF F a.2)]]
def clsA (g : G) (v : Int) (F : Nat → Int) (i : Nat) : List (List Int) := (List.range i).flatMap fun (j : Nat) => andCl F (v + g.ins + 1 + (j : Int)) (g.ands.getD j (0, 0))
theorem nowI_succ (v : Int) (f : Nat → Int) (i : Nat) : (fun j => if j = 1 + i then v + (i + 1) else nowI v f i j) = nowI v f (i + 1) := by
  funext j
  unfold nowI
  by_cases h : j = 1 + i
  · rw [if_pos h, if_pos (by omega)]; omega
  · rw [if_neg h]
    by_cases h1 : 1 ≤ j ∧ j < 1 + i
    · rw [if_pos h1, if_pos (by omega)]
    · rw [if_neg h1, if_neg (by omega)]
theorem nowI_zero (v : Int) (f : Nat → Int) : nowI v f 0 = f := by
  funext j
  unfold nowI
  rw [if_neg (by omega)]
theorem nowA_zero (g : G) (v : Int) (f : Nat → Int) : nowA g v f 0 = nowI v f g.ins.toNat := by
  funext j
  unfold nowA
  rw [if_neg (by omega)]
theorem nowA_succ (g : G) (v : Int) (f : Nat → Int) (i : Nat) : (fun j => if j = firstN g + i then v + g.ins + i + 1 else nowA g v f i j) = nowA g v f (i + 1) := by
  funext j
  unfold nowA
  by_cases h : j = firstN g + i
  · rw [if_pos h, if_pos (by omega)]; omega
  · rw [if_neg h]
    by_cases h1 : firstN g ≤ j ∧ j < firstN g + i
    · rw [if_pos h1, if_pos (by omega)]
    · rw [if_neg h1, if_neg (by omega)]
theorem nowA_in (g : G) (v : Int) (f : Nat → Int) {i k : Nat} (hk : i ≤ k) {a : Int} (ha : (a / 2).toNat < firstN g + i) : inF (nowA g v f i) a = inF (nowA g v f k) a := by
  have : nowA g v f i (a / 2).toNat = nowA g v f k (a / 2).toNat := by
    unfold nowA
    by_cases h1 : firstN g ≤ (a / 2).toNat
    · rw [if_pos ⟨h1, ha⟩, if_pos ⟨h1, by omega⟩]
    · rw [if_neg (fun e => h1 e.1), if_neg (fun e => h1 e.1)]
  unfold inF
  rw [this]
theorem nextF_zero (g : G) (F : Nat → Int) : nextF g F 0 = fun j => if j = 0 then -1 else 0 := by
  funext j
  unfold nextF
  by_cases h0 : j = 0
  · rw [if_pos h0, if_pos h0]
  · rw [if_neg h0, if_neg h0, if_neg (by omega)]
theorem nextF_succ (g : G) (F : Nat → Int) (i : Nat) {x : Int} (hx : g.next[i]? = some x) : (fun j => if j = 1 + g.ins.toNat + i then inF F x else nextF g F i j) = nextF g F (i + 1) := by
  funext j
  unfold nextF
  by_cases h : j = 1 + g.ins.toNat + i
  · rw [if_pos h, if_neg (by omega), if_pos (by omega), show j - 1 - g.ins.toNat = i by omega, List.getD_eq_getElem?_getD, hx]
    rfl
  · rw [if_neg h]
    by_cases h0 : j = 0
    · rw [if_pos h0, if_pos h0]
    · rw [if_neg h0, if_neg h0]
      by_cases h1 : g.ins.toNat < j ∧ j < 1 + g.ins.toNat + i
      · rw [if_pos h1, if_pos (by omega)]
      · rw [if_neg h1, if_neg (by omega)]
theorem clsA_succ (g : G) (v : Int) (F : Nat → Int) {i : Nat} {a : Int × Int} (ha : g.ands[i]? = some a) : clsA g v F (i + 1) = clsA g v F i ++ andCl F (v + g.ins + 1 + i) a := by
  unfold clsA
  rw [List.range_succ, List.flatMap_append, List.flatMap_cons, List.flatMap_nil, List.append_nil, List.getD_eq_getElem?_getD, ha]
  rfl
theorem clsA_len (g : G) (v : Int) (F : Nat → Int) (i : Nat) : (clsA g v F i).length = 3 * i := by
  induction i with
  | zero => simp [clsA]
  | succ i ih =>
    unfold clsA at ih ⊢
    rw [List.range_succ, List.flatMap_append, List.length_append, ih, List.flatMap_cons, List.flatMap_nil, List.append_nil]
    show 3 * i + 3 = 3 * (i + 1)
    omega
structure SI (g : G) (nb : Nat) (o : Nat → O) (S : List Nat) (v : Int) (cls : List (List Int)) (n : Nat) (l : List (List A)) (oc : Nat → O) : Prop where
  bd : Bd oc nb g v cls (.row 902 n)
  lt : oc 902 = ⟨n, .rowA 22 1 l⟩
  fr : Fr 1000 o oc S
structure GOk (g : G) (N : Nat) : Prop where
  i0 : 0 ≤ g.ins
  hN : (N : Int) = 1 + g.ins + g.next.length + g.ands.length
  le : N ≤ 4001
  an : ∀ (j : Nat) a, g.ands[j]? = some a → (0 ≤ a.1 ∧ (a.1 / 2).toNat < firstN g + j ∧ a.1 ≤ 140737488355328) ∧ (0 ≤ a.2 ∧ (a.2 / 2).toNat < firstN g + j ∧ a.2 ≤ 140737488355328)
  nx : ∀ x ∈ g.next, 0 ≤ x ∧ (x / 2).toNat < N ∧ x ≤ 140737488355328
set_option maxHeartbeats 4000000 in
theorem step0_cm {o : Nat → O} {nb n k : Nat} {g : G} {v : Int} {cls : List (List Int)} {N : Nat} (hg : GOk g N) {m : List (List A)} {f : Nat → Int} (hB : Bd o nb g v cls (.row 902 n)) (hL : o 902 = ⟨n, .rowA 22 1 (m ++ [[.row 10000 k]])⟩) (hR : o 10000 = ⟨k, .row 3 1 (iC (mk N f))⟩)
    (hv : 1 ≤ v ∧ v ≤ 500000) (hm : m.length ≤ 90) (hcl : cls.length ≤ 800000) :
    Cm Try.prog Hy 92 [.ptr 900 nb 0] o fun rs o' => ∃ n' k', rs = [] ∧ Bd o' nb g (v + g.ins + g.ands.length) (cls ++ clsA g v (nowA g v f g.ands.length) g.ands.length) (.row 902 n') ∧
      o' 902 = ⟨n', .rowA 22 1 (m ++ [A.t (iL (mk N (nowA g v f g.ands.length)))] :: [[.row 10001 k']])⟩ ∧ o' 10001 = ⟨k', .row 3 1 (iC (mk N (nextF g (nowA g v f g.ands.length) g.next.length)))⟩ ∧ Fr 1000 o o' [900, 901, 902, 10000, 10001] := by
  have hN := hg.hN
  have hg0 := hg.i0
  have hle := hg.le
  have hNf : N = firstN g + g.ands.length := by unfold firstN; omega
  refine Cm.settle (R := fun rs o' => ∃ n' k', rs = [] ∧ Bd o' nb g (v + g.ins + g.ands.length) (cls ++ clsA g v (nowA g v f g.ands.length) g.ands.length) (.row 902 n') ∧
      o' 902 = ⟨n', .rowA 22 1 (m ++ [.row 10000 k] :: [[.row 10001 k']])⟩ ∧ o' 10001 = ⟨k', .row 3 1 (iC (mk N (nextF g (nowA g v f g.ands.length) g.next.length)))⟩ ∧ o' 10000 = ⟨k, .row 3 1 (iC (mk N (nowA g v f g.ands.length)))⟩ ∧ Fr 1000 o o' [900, 901, 902, 10000, 10001]) ?_ ?_
  rotate_left
  · rintro rs o' ⟨n', k', rfl, h1, h2, h3, h4, h5⟩
    obtain ⟨o2, s1, s2, s3, s4⟩ := settle_mid h2 h4 (by decide)
    refine ⟨o2, s1, n', k', rfl, h1.keep (s4 _ (by decide) (by decide)) (s4 _ (by decide) (by decide)), s2, (s4 _ (by decide) (by decide)).trans h3, fun i hi hS => ?_⟩
    rw [s4 i (fun e => hS (by simp [e])) (fun e => hS (by simp [e])), h5 i hi hS]
  obtain ⟨lr, hlr⟩ : ∃ lr, lr = m ++ [[A.row 10000 k]] := ⟨_, rfl⟩
  have hlrl : lr.length = m.length + 1 := by rw [hlr]; simp
  have hlrg : lr[m.length]? = some [A.row 10000 k] := by rw [hlr]; simp
  have hM : (((m.length + 1 : Nat) : Int) - 1).toNat = m.length := by omega
  rw [← hlr] at hL
  obtain ⟨xc, ho, hc⟩ := id hB
  refine cm_of (cls := fun d => if d = 79 then 1016 else if d = 85 then 1016 else if d = 93 then 1016 else 1000 + d) tt_ok follows_ Try.func92 rfl (by decide) (Nat.le_of_ble_eq_true rfl) ?_
  rw [show Try.f92.ntmps = 123 from rfl, s0_nf]
  simp only [List.zipIdx_cons, List.zipIdx_nil, List.map_cons, List.map_nil, Nat.reduceAdd]
  repeat' first | refine c_seq ?_ | refine c_block ?_ | refine c_reg' rfl fun K hK => ?_ | refine c_draw' rfl (by kernel_rfl) fun K hK => ?_ | ((first | refine r_opN fun κ η => ?_ | refine d_opN (by kernel_rfl) fun κ η => ?_); simp only [go_sem, Nat.reduceLT, Nat.reduceEqDiff, Nat.reduceAdd, Nat.reduceMul, Nat.reduceLeDiff, Nat.le_refl, reduceIte, reduceCtorEq, ho, hL, hlrl, hM, hlrg]; (repeat refine ⟨by omega, ?_⟩); refine η _ ?_; clear η κ) | (refine r_nil (hK _ ?_); clear hK K) | refine q_seq ?_ | (refine d_nil (hK _ ?_); clear hK K)
  refine c_loop (fun q s' => ∃ i : Nat, q = g.ins.toNat - i ∧ i ≤ g.ins.toNat ∧ ∃ F oc, s' = nf 123 F oc [(0, .ptr 900 nb 0), (2, .row 10000 k), (3, .fn 84 [.row 10000 k] []), (33, .t (.i .i64 g.ins)), (34, .t (.i .i64 i))] [] ∧ SI g nb o [900, 10000] (v + i) cls n lr oc ∧ oc 10000 = ⟨k, .row 3 1 (iC (mk N (nowI v f i)))⟩) g.ins.toNat ?_ ?_
  · refine ⟨0, by omega, by omega, _, _, nf_of rfl ⟨rfl, rfl, rfl, rfl, rfl, trivial⟩ trivial, ⟨?_, hL, fun i _ _ => rfl⟩, ?_⟩
    · rw [show v + ((0 : Nat) : Int) = v from Int.add_zero v]
      exact hB
    · exact hR.trans (by rw [nowI_zero])
  rintro q s' ⟨i, rfl, hi, F, oc, rfl, hI, hrw⟩
  repeat' first | refine c_seq ?_ | refine c_reg' rfl fun K hK => ?_ | (refine r_opN fun κ η => ?_; simp only [go_sem, Nat.reduceLT, Nat.reduceEqDiff, Nat.reduceAdd, Nat.reduceMul, Nat.reduceLeDiff, Nat.le_refl, reduceIte, reduceCtorEq]; refine η _ ?_; clear η κ) | (refine r_nil (hK _ ?_); clear hK K) | refine q_seq ?_
  refine c_cond _ rfl (fun hq => ?_) (fun hq => ?_)
  · simp only [decide_eq_true_eq] at hq
    have hp : (1 + (i : Int)).toNat = 1 + i := by omega
    have hget := iC_get (mk_get (n := N) (f := nowI v f i) (show 1 + i < N by omega))
    have hlen : (iC (mk N (nowI v f i))).length = N := by rw [iC_len, mk_len]
    have hset : (iC (mk N (nowI v f i))).set (1 + i) [.i .i64 (v + i + 1)] = iC (mk N (nowI v f (i + 1))) := by
      rw [iC_set, mk_set, ← nowI_succ, Int.add_assoc]
    repeat' first | refine c_seq ?_ | refine c_block ?_ | refine c_reg' rfl fun K hK => ?_ | (refine r_opN fun κ η => ?_; simp only [go_sem, Nat.reduceLT, Nat.reduceEqDiff, Nat.reduceAdd, Nat.reduceMul, Nat.reduceLeDiff, Nat.le_refl, reduceIte, reduceCtorEq]; (repeat refine ⟨by omega, ?_⟩); refine η _ ?_; clear η κ) | (refine r_nil (hK _ ?_); clear hK K) | refine q_seq ?_ | refine c_skip ?_
    refine r_call fun κ η => ?_; simp only [go_sem, Nat.reduceLT, Nat.reduceEqDiff, Nat.reduceAdd, Nat.reduceMul, Nat.reduceLeDiff, Nat.le_refl, reduceIte, reduceCtorEq]; refine ⟨_, variable_cm Hy (by exact hI.bd) (by omega), ?_⟩; rintro _ o4 ⟨rfl, hB4, hF4⟩; simp only [go_sem, Nat.reduceLT, Nat.reduceEqDiff, Nat.reduceAdd, Nat.reduceMul, Nat.reduceLeDiff, Nat.le_refl, reduceIte, reduceCtorEq]; refine η _ ?_; clear η κ
    have h4 := (hF4 10000 (by decide) (by decide)).trans hrw
    repeat' first | refine c_reg' rfl fun K hK => ?_ | (refine r_opN fun κ η => ?_; simp only [go_sem, Nat.reduceLT, Nat.reduceEqDiff, Nat.reduceAdd, Nat.reduceMul, Nat.reduceLeDiff, Nat.le_refl, reduceIte, reduceCtorEq, h4, hp, hget, hlen]; (repeat refine ⟨by omega, ?_⟩); refine η _ ?_; clear η κ) | (refine r_nil (hK _ ?_); clear hK K) | refine q_seq ?_ | refine q_blk ?_ | refine q_lpN ?_
    refine ⟨g.ins.toNat - (i + 1), by omega, i + 1, rfl, by omega, _, _, nf_of rfl ⟨rfl, rfl, rfl, rfl, rfl, trivial⟩ trivial, ⟨?_, ?_, fun j hj hS => ?_⟩, ?_⟩
    · rw [show v + ((i + 1 : Nat) : Int) = v + i + 1 by omega]
      exact hB4.keep rfl rfl
    · exact (hF4 902 (by decide) (by decide)).trans hI.lt
    · rw [← hI.fr j hj hS]
      refine (if_neg (fun e => hS (by simp [e]))).trans (hF4 j (by omega) (fun e => hS ?_))
      simp only [List.mem_cons, List.not_mem_nil, or_false] at e ⊢
      exact .inl e
    · rw [← hset]
      rfl
  simp only [decide_eq_false_iff_not] at hq
  obtain rfl : i = g.ins.toNat := by omega
  rw [show v + ((g.ins.toNat : Nat) : Int) = v + g.ins by omega] at hI
  clear hq hi hB hL hR ho hc
  obtain ⟨xc, ho, hc⟩ := id hI.bd
  repeat' first | refine c_seq ?_ | refine c_block ?_ | refine c_reg' rfl fun K hK => ?_ | (refine r_opN fun κ η => ?_; simp only [go_sem, Nat.reduceLT, Nat.reduceEqDiff, Nat.reduceAdd, Nat.reduceMul, Nat.reduceLeDiff, Nat.le_refl, reduceIte, reduceCtorEq, ho]; (repeat refine ⟨by omega, ?_⟩); refine η _ ?_; clear η κ) | (refine r_nil (hK _ ?_); clear hK K) | refine q_seq ?_ | refine c_exit ?_ | refine q_seqE ?_ | refine q_blkHit ?_ | refine q_lpE ?_
  refine c_loop (fun q s' => ∃ i : Nat, q = g.ands.length - i ∧ i ≤ g.ands.length ∧ ∃ F oc, s' = nf 123 F oc [(0, .ptr 900 nb 0), (2, .row 10000 k), (3, .fn 84 [.row 10000 k] []), (48, .t (pL g.ands)), (49, .t (.i .i64 g.ands.length)), (50, .t (.i .i64 i))] [] ∧ SI g nb o [900, 901, 10000] (v + g.ins + i) (cls ++ clsA g v (nowA g v f g.ands.length) i) n lr oc ∧ oc 10000 = ⟨k, .row 3 1 (iC (mk N (nowA g v f i)))⟩) g.ands.length ?_ ?_
  · refine ⟨0, by omega, by omega, _, _, nf_of rfl ⟨rfl, rfl, rfl, rfl, rfl, rfl, trivial⟩ trivial, ⟨?_, hI.lt, hI.fr.sub (Nat.le_refl _) (by simp)⟩, ?_⟩
    · rw [show v + g.ins + ((0 : Nat) : Int) = v + g.ins from Int.add_zero _, show cls ++ clsA g v (nowA g v f g.ands.length) 0 = cls from by simp [clsA]]
      exact hI.bd
    · exact hrw.trans (by rw [nowA_zero])
  clear hI hrw ho hc
  rintro q s' ⟨i, rfl, hi, F, oc, rfl, hI, hrw⟩
  simp only [pL]
  repeat' first | refine c_seq ?_ | refine c_reg' rfl fun K hK => ?_ | (refine r_opN fun κ η => ?_; simp only [go_sem, Nat.reduceLT, Nat.reduceEqDiff, Nat.reduceAdd, Nat.reduceMul, Nat.reduceLeDiff, Nat.le_refl, reduceIte, reduceCtorEq]; refine η _ ?_; clear η κ) | (refine r_nil (hK _ ?_); clear hK K) | refine q_seq ?_
  refine c_cond _ rfl (fun hq => ?_) (fun hq => ?_)
  · simp only [decide_eq_true_eq] at hq
    obtain ⟨a, ha⟩ : ∃ a, g.ands[i]? = some a := ⟨_, List.getElem?_eq_getElem (by omega)⟩
    obtain ⟨⟨p1, p2, p3⟩, ⟨p4, p5, p6⟩⟩ := hg.an i a ha
    have hp : (1 + g.ins + (g.next.length : Int) + (i : Int)).toNat = firstN g + i := by unfold firstN; omega
    have hget := iC_get (mk_get (n := N) (f := nowA g v f i) (show firstN g + i < N by omega))
    have hlen : (iC (mk N (nowA g v f i))).length = N := by rw [iC_len, mk_len]
    have hset : (iC (mk N (nowA g v f i))).set (firstN g + i) [.i .i64 (v + g.ins + i + 1)] = iC (mk N (nowA g v f (i + 1))) := by
      rw [iC_set, mk_set, ← nowA_succ]
    have hx : inW (mk N (nowA g v f (i + 1))) a.1 = inF (nowA g v f g.ands.length) a.1 := by rw [inW_mk (by omega), nowA_in g v f (show i + 1 ≤ g.ands.length by omega) (by omega)]
    have hy : inW (mk N (nowA g v f (i + 1))) a.2 = inF (nowA g v f g.ands.length) a.2 := by rw [inW_mk (by omega), nowA_in g v f (show i + 1 ≤ g.ands.length by omega) (by omega)]
    have hcln := clsA_len g v (nowA g v f g.ands.length) i
    repeat' first | refine c_seq ?_ | refine c_block ?_ | refine c_reg' rfl fun K hK => ?_ | (refine r_opN fun κ η => ?_; simp only [go_sem, Nat.reduceLT, Nat.reduceEqDiff, Nat.reduceAdd, Nat.reduceMul, Nat.reduceLeDiff, Nat.le_refl, reduceIte, reduceCtorEq, ha]; (repeat refine ⟨by omega, ?_⟩); refine η _ ?_; clear η κ) | (refine r_nil (hK _ ?_); clear hK K) | refine q_seq ?_ | refine c_skip ?_
    refine r_call fun κ η => ?_; simp only [go_sem, Nat.reduceLT, Nat.reduceEqDiff, Nat.reduceAdd, Nat.reduceMul, Nat.reduceLeDiff, Nat.le_refl, reduceIte, reduceCtorEq]; refine ⟨_, variable_cm Hy (by exact hI.bd.keep rfl rfl) (by omega), ?_⟩; rintro _ o4 ⟨rfl, hB4, hF4⟩; simp only [go_sem, Nat.reduceLT, Nat.reduceEqDiff, Nat.reduceAdd, Nat.reduceMul, Nat.reduceLeDiff, Nat.le_refl, reduceIte, reduceCtorEq]; refine η _ ?_; clear η κ
    obtain ⟨xc4, ho4, hc4⟩ := id hB4
    have h4 := (hF4 10000 (by decide) (by decide)).trans hrw
    repeat' first | refine c_seq ?_ | refine c_reg' rfl fun K hK => ?_ | (refine r_opN fun κ η => ?_; simp only [go_sem, Nat.reduceLT, Nat.reduceEqDiff, Nat.reduceAdd, Nat.reduceMul, Nat.reduceLeDiff, Nat.le_refl, reduceIte, reduceCtorEq, ho4]; (repeat refine ⟨by omega, ?_⟩); refine η _ ?_; clear η κ) | (refine r_nil (hK _ ?_); clear hK K) | refine q_seq ?_
    refine r_opN fun κ η => ?_; simp only [go_sem, Nat.reduceLT, Nat.reduceEqDiff, Nat.reduceAdd, Nat.reduceMul, Nat.reduceLeDiff, Nat.le_refl, reduceIte, reduceCtorEq, G.t, iL, pL]; refine ⟨_, cfirst_ct Hy g (by omega), ?_⟩; simp only [go_sem, Nat.reduceLT, Nat.reduceEqDiff, Nat.reduceAdd, Nat.reduceMul, Nat.reduceLeDiff, Nat.le_refl, reduceIte, reduceCtorEq, G.t, iL, pL]; refine η _ ?_; clear η κ
    repeat' first | refine c_seq ?_ | refine c_draw' rfl (by kernel_rfl) fun K hK => ?_ | ((first | refine r_opN fun κ η => ?_ | refine d_opN (by kernel_rfl) fun κ η => ?_); simp only [go_sem, Nat.reduceLT, Nat.reduceEqDiff, Nat.reduceAdd, Nat.reduceMul, Nat.reduceLeDiff, Nat.le_refl, reduceIte, reduceCtorEq, h4, hp, hget, hlen]; (repeat refine ⟨by omega, ?_⟩); refine η _ ?_; clear η κ) | (refine r_nil (hK _ ?_); clear hK K) | refine q_seq ?_
    have h6 : o4 1006 = ⟨(oc 1006).gen + 1, .cells 77 [.t (.i .i64 a.1), .t (.i .i64 a.2)]⟩ := hF4 1006 (by decide) (by decide)
    have hw : ∀ x, IntKind.wrap .i64 (0 - x) = negW x := fun _ => rfl
    have hll : (cls ++ clsA g v (nowA g v f g.ands.length) i).length ≤ 900000 := by rw [List.length_append, hcln]; omega
    repeat' (refine d_opN (by kernel_rfl) fun κ η => ?_; simp only [go_sem, Nat.reduceLT, Nat.reduceEqDiff, Nat.reduceAdd, Nat.reduceMul, Nat.reduceLeDiff, Nat.le_refl, reduceIte, reduceCtorEq, h6, hset]; (repeat refine ⟨by omega, ?_⟩); refine η _ ?_; clear η κ)
    refine d_opN (by kernel_rfl) fun κ η => ?_; simp only [go_sem, Nat.reduceLT, Nat.reduceEqDiff, Nat.reduceAdd, Nat.reduceMul, Nat.reduceLeDiff, Nat.le_refl, reduceIte, reduceCtorEq, hset, hx]; refine ⟨_, rowlit_ct Hy (mk N (nowA g v f (i + 1))) a.1 ⟨p1, by rw [mk_len]; omega, by omega⟩, ?_⟩; simp only [go_sem, Nat.reduceLT, Nat.reduceEqDiff, Nat.reduceAdd, Nat.reduceMul, Nat.reduceLeDiff, Nat.le_refl, reduceIte, reduceCtorEq, hset, hx]; refine η _ ?_; clear η κ
    repeat' (refine d_opN (by kernel_rfl) fun κ η => ?_; simp only [go_sem, Nat.reduceLT, Nat.reduceEqDiff, Nat.reduceAdd, Nat.reduceMul, Nat.reduceLeDiff, Nat.le_refl, reduceIte, reduceCtorEq, h6]; (repeat refine ⟨by omega, ?_⟩); refine η _ ?_; clear η κ)
    refine d_opN (by kernel_rfl) fun κ η => ?_; simp only [go_sem, Nat.reduceLT, Nat.reduceEqDiff, Nat.reduceAdd, Nat.reduceMul, Nat.reduceLeDiff, Nat.le_refl, reduceIte, reduceCtorEq, hset, hy]; refine ⟨_, rowlit_ct Hy (mk N (nowA g v f (i + 1))) a.2 ⟨p4, by rw [mk_len]; omega, by omega⟩, ?_⟩; simp only [go_sem, Nat.reduceLT, Nat.reduceEqDiff, Nat.reduceAdd, Nat.reduceMul, Nat.reduceLeDiff, Nat.le_refl, reduceIte, reduceCtorEq, hset, hy]; refine η _ ?_; clear η κ
    repeat' first | refine c_seq ?_ | refine c_reg' rfl fun K hK => ?_ | ((first | refine r_opN fun κ η => ?_ | refine d_opN (by kernel_rfl) fun κ η => ?_); simp only [go_sem, Nat.reduceLT, Nat.reduceEqDiff, Nat.reduceAdd, Nat.reduceMul, Nat.reduceLeDiff, Nat.le_refl, reduceIte, reduceCtorEq, hw]; refine η _ ?_; clear η κ) | refine q_seq ?_ | (refine d_nil (hK _ ?_); clear hK K)
    refine r_call fun κ η => ?_; simp only [go_sem, Nat.reduceLT, Nat.reduceEqDiff, Nat.reduceAdd, Nat.reduceMul, Nat.reduceLeDiff, Nat.le_refl, reduceIte, reduceCtorEq]; refine ⟨_, add_cm Hy (c := [negW (v + g.ins + i + 1), inF (nowA g v f g.ands.length) a.1]) (by exact hB4.keep rfl rfl) (by rfl) (by omega) (by simp), ?_⟩; rintro _ o5 ⟨rfl, hB5, hF5⟩; simp only [go_sem, Nat.reduceLT, Nat.reduceEqDiff, Nat.reduceAdd, Nat.reduceMul, Nat.reduceLeDiff, Nat.le_refl, reduceIte, reduceCtorEq]; refine η _ ?_; clear η κ
    repeat' first | refine c_seq ?_ | refine c_reg' rfl fun K hK => ?_ | (refine r_opN fun κ η => ?_; simp only [go_sem, Nat.reduceLT, Nat.reduceEqDiff, Nat.reduceAdd, Nat.reduceMul, Nat.reduceLeDiff, Nat.le_refl, reduceIte, reduceCtorEq, hw]; refine η _ ?_; clear η κ) | (refine r_nil (hK _ ?_); clear hK K) | refine q_seq ?_
    refine r_call fun κ η => ?_; simp only [go_sem, Nat.reduceLT, Nat.reduceEqDiff, Nat.reduceAdd, Nat.reduceMul, Nat.reduceLeDiff, Nat.le_refl, reduceIte, reduceCtorEq]; refine ⟨_, add_cm Hy (c := [negW (v + g.ins + i + 1), inF (nowA g v f g.ands.length) a.2]) (by exact hB5.keep rfl rfl) (by rfl) (by rw [List.length_append]; show _ + 1 ≤ _; omega) (by simp), ?_⟩; rintro _ o6 ⟨rfl, hB6, hF6⟩; simp only [go_sem, Nat.reduceLT, Nat.reduceEqDiff, Nat.reduceAdd, Nat.reduceMul, Nat.reduceLeDiff, Nat.le_refl, reduceIte, reduceCtorEq]; refine η _ ?_; clear η κ
    repeat' first | refine c_reg' rfl fun K hK => ?_ | (refine r_opN fun κ η => ?_; simp only [go_sem, Nat.reduceLT, Nat.reduceEqDiff, Nat.reduceAdd, Nat.reduceMul, Nat.reduceLeDiff, Nat.le_refl, reduceIte, reduceCtorEq, hw]; refine η _ ?_; clear η κ) | (refine r_nil (hK _ ?_); clear hK K) | refine q_seq ?_
    refine r_call fun κ η => ?_; simp only [go_sem, Nat.reduceLT, Nat.reduceEqDiff, Nat.reduceAdd, Nat.reduceMul, Nat.reduceLeDiff, Nat.le_refl, reduceIte, reduceCtorEq]; refine ⟨_, add_cm Hy (c := [v + g.ins + i + 1, negW (inF (nowA g v f g.ands.length) a.1), negW (inF (nowA g v f g.ands.length) a.2)]) (by exact hB6.keep rfl rfl) (by rfl) (by rw [List.length_append, List.length_append]; show _ + 1 + 1 ≤ _; omega) (by simp), ?_⟩; rintro _ o7 ⟨rfl, hB7, hF7⟩; simp only [go_sem, Nat.reduceLT, Nat.reduceEqDiff, Nat.reduceAdd, Nat.reduceMul, Nat.reduceLeDiff, Nat.le_refl, reduceIte, reduceCtorEq]; refine η _ ?_; clear η κ
    repeat' first | refine c_reg' rfl fun K hK => ?_ | (refine r_opN fun κ η => ?_; simp only [go_sem, Nat.reduceLT, Nat.reduceEqDiff, Nat.reduceAdd, Nat.reduceMul, Nat.reduceLeDiff, Nat.le_refl, reduceIte, reduceCtorEq]; (repeat refine ⟨by omega, ?_⟩); refine η _ ?_; clear η κ) | (refine r_nil (hK _ ?_); clear hK K) | refine q_seq ?_ | refine q_blk ?_ | refine q_lpN ?_
    have keep : ∀ j, (j < 1000 ∨ 10000 ≤ j) → j ∉ [900, 901, 10000] → o7 j = oc j := fun j hj hS => by
      simp only [List.mem_cons, List.not_mem_nil, or_false, not_or] at hS
      rw [hF7 j (by omega) (by simp; omega)]
      refine (lookO_other (by simp; omega)).trans ?_
      rw [hF6 j (by omega) (by simp; omega)]
      refine (lookO_other (by simp; omega)).trans ?_
      rw [hF5 j (by omega) (by simp; omega)]
      refine (lookO_other (by simp; omega)).trans ?_
      rw [hF4 j (by omega) (by simp; omega)]
      exact lookO_other (by simp; omega)
    refine ⟨g.ands.length - (i + 1), by omega, i + 1, rfl, by omega, _, _, nf_of rfl ⟨rfl, rfl, rfl, rfl, rfl, rfl, trivial⟩ trivial, ⟨?_, ?_, fun j hj hS => ?_⟩, ?_⟩
    · rw [show v + g.ins + ((i + 1 : Nat) : Int) = v + g.ins + i + 1 by omega, clsA_succ g v _ ha, show v + g.ins + 1 + (i : Int) = v + g.ins + i + 1 by omega]
      refine (show Bd o7 nb g _ _ _ from ?_)
      simp only [andCl, List.append_assoc, List.cons_append, List.nil_append] at hB7 ⊢
      exact hB7
    · exact (keep 902 (by decide) (by decide)).trans hI.lt
    · rw [← hI.fr j hj hS]
      exact keep j hj hS
    · exact (hF7 10000 (by decide) (by decide)).trans ((hF6 10000 (by decide) (by decide)).trans (hF5 10000 (by decide) (by decide)))
  simp only [decide_eq_false_iff_not] at hq
  obtain rfl : i = g.ands.length := by omega
  clear hq hi
  repeat' first | refine c_seq ?_ | refine c_reg' rfl fun K hK => ?_ | (refine r_opN fun κ η => ?_; simp only [go_sem, Nat.reduceLT, Nat.reduceEqDiff, Nat.reduceAdd, Nat.reduceMul, Nat.reduceLeDiff, Nat.le_refl, reduceIte, reduceCtorEq]; refine η _ ?_; clear η κ) | refine q_seq ?_ | refine c_exit ?_ | refine q_seqE ?_ | refine q_blkHit ?_ | refine q_lpE ?_
  refine r_call fun κ η => ?_; simp only [go_sem, Nat.reduceLT, Nat.reduceEqDiff, Nat.reduceAdd, Nat.reduceMul, Nat.reduceLeDiff, Nat.le_refl, reduceIte, reduceCtorEq]; refine ⟨_, row_cm Hy (m := lr) (r := 10001) (N := N) (by exact hI.bd) (.inr ⟨n, rfl, hI.lt⟩) (by omega) (by omega) (by decide) (by omega), ?_⟩; rintro _ o8 ⟨n8, k8, rfl, hB8, hL8, hR8, hF8⟩; simp only [go_sem, Nat.reduceLT, Nat.reduceEqDiff, Nat.reduceAdd, Nat.reduceMul, Nat.reduceLeDiff, Nat.le_refl, reduceIte, reduceCtorEq]; refine η _ ?_; clear η κ
  obtain ⟨xc, ho, hc⟩ := id hB8
  have hRR := (hF8 10000 (by decide) (by decide)).trans hrw
  repeat' first | refine c_seq ?_ | refine c_block ?_ | refine c_reg' rfl fun K hK => ?_ | (refine r_opN fun κ η => ?_; simp only [go_sem, Nat.reduceLT, Nat.reduceEqDiff, Nat.reduceAdd, Nat.reduceMul, Nat.reduceLeDiff, Nat.le_refl, reduceIte, reduceCtorEq, ho]; (repeat refine ⟨by omega, ?_⟩); refine η _ ?_; clear η κ) | (refine r_nil (hK _ ?_); clear hK K) | refine q_seq ?_
  refine c_loop (fun q s' => ∃ i : Nat, q = g.next.length - i ∧ i ≤ g.next.length ∧ ∃ F oc, s' = nf 123 F oc [(0, .ptr 900 nb 0), (3, .fn 84 [.row 10000 k] []), (10, .row 10001 k8), (102, .t (iL g.next)), (103, .t (.i .i64 g.next.length)), (104, .t (.i .i64 i))] [] ∧ SI g nb o [900, 901, 902, 10000, 10001] (v + g.ins + g.ands.length) (cls ++ clsA g v (nowA g v f g.ands.length) g.ands.length) n8 (lr ++ [[.row 10001 k8]]) oc ∧
      oc 10000 = ⟨k, .row 3 1 (iC (mk N (nowA g v f g.ands.length)))⟩ ∧ oc 10001 = ⟨k8, .row 3 1 (iC (mk N (nextF g (nowA g v f g.ands.length) i)))⟩) g.next.length ?_ ?_
  · refine ⟨0, by omega, by omega, _, _, nf_of rfl ⟨rfl, rfl, rfl, rfl, rfl, rfl, trivial⟩ trivial, ⟨hB8, hL8, fun j hj hS => ?_⟩, hRR, hR8.trans (by rw [nextF_zero])⟩
    simp only [List.mem_cons, List.not_mem_nil, or_false, not_or] at hS
    exact (hF8 j (by omega) (by simp; omega)).trans (hI.fr j hj (by simp; omega))
  clear hI hrw hB8 hL8 hR8 hF8 hRR ho hc
  rintro q s' ⟨i, rfl, hi, F, oc, rfl, hI, hrw, hrw2⟩
  simp only [iL]
  repeat' first | refine c_seq ?_ | refine c_reg' rfl fun K hK => ?_ | (refine r_opN fun κ η => ?_; simp only [go_sem, Nat.reduceLT, Nat.reduceEqDiff, Nat.reduceAdd, Nat.reduceMul, Nat.reduceLeDiff, Nat.le_refl, reduceIte, reduceCtorEq]; refine η _ ?_; clear η κ) | (refine r_nil (hK _ ?_); clear hK K) | refine q_seq ?_
  refine c_cond _ rfl (fun hq => ?_) (fun hq => ?_)
  · simp only [decide_eq_true_eq] at hq
    obtain ⟨x, hx⟩ : ∃ x, g.next[i]? = some x := ⟨_, List.getElem?_eq_getElem (by omega)⟩
    obtain ⟨p1, p2, p3⟩ := hg.nx x (List.mem_of_getElem? hx)
    obtain ⟨xc, ho, hc⟩ := id hI.bd
    have hp : (1 + g.ins + (i : Int)).toNat = 1 + g.ins.toNat + i := by omega
    have hget := iC_get (mk_get (n := N) (f := nextF g (nowA g v f g.ands.length) i) (show 1 + g.ins.toNat + i < N by omega))
    have hlen : (iC (mk N (nextF g (nowA g v f g.ands.length) i))).length = N := by rw [iC_len, mk_len]
    have hset : (iC (mk N (nextF g (nowA g v f g.ands.length) i))).set (1 + g.ins.toNat + i) [.i .i64 (inF (nowA g v f g.ands.length) x)] = iC (mk N (nextF g (nowA g v f g.ands.length) (i + 1))) := by
      rw [iC_set, mk_set, nextF_succ g _ i hx]
    have hxx : inW (mk N (nowA g v f g.ands.length)) x = inF (nowA g v f g.ands.length) x := inW_mk p2
    repeat' first | refine c_seq ?_ | refine c_block ?_ | refine c_reg' rfl fun K hK => ?_ | refine c_draw' rfl (by kernel_rfl) fun K hK => ?_ | ((first | refine r_opN fun κ η => ?_ | refine d_opN (by kernel_rfl) fun κ η => ?_); simp only [go_sem, Nat.reduceLT, Nat.reduceEqDiff, Nat.reduceAdd, Nat.reduceMul, Nat.reduceLeDiff, Nat.le_refl, reduceIte, reduceCtorEq, hx, ho, hrw, hrw2]; (repeat refine ⟨by omega, ?_⟩); refine η _ ?_; clear η κ) | (refine r_nil (hK _ ?_); clear hK K) | refine q_seq ?_ | refine c_skip ?_
    refine d_opN (by kernel_rfl) fun κ η => ?_; simp only [go_sem, Nat.reduceLT, Nat.reduceEqDiff, Nat.reduceAdd, Nat.reduceMul, Nat.reduceLeDiff, Nat.le_refl, reduceIte, reduceCtorEq, hrw, hxx]; refine ⟨_, rowlit_ct Hy (mk N (nowA g v f g.ands.length)) x ⟨p1, by rw [mk_len]; omega, by omega⟩, ?_⟩; simp only [go_sem, Nat.reduceLT, Nat.reduceEqDiff, Nat.reduceAdd, Nat.reduceMul, Nat.reduceLeDiff, Nat.le_refl, reduceIte, reduceCtorEq, hrw, hxx]; refine η _ ?_; clear η κ
    repeat' first | refine c_reg' rfl fun K hK => ?_ | ((first | refine r_opN fun κ η => ?_ | refine d_opN (by kernel_rfl) fun κ η => ?_); simp only [go_sem, Nat.reduceLT, Nat.reduceEqDiff, Nat.reduceAdd, Nat.reduceMul, Nat.reduceLeDiff, Nat.le_refl, reduceIte, reduceCtorEq, hrw2, hp, hget, hlen, hset]; (repeat refine ⟨by omega, ?_⟩); refine η _ ?_; clear η κ) | (refine r_nil (hK _ ?_); clear hK K) | refine q_seq ?_ | (refine d_nil (hK _ ?_); clear hK K) | refine q_blk ?_ | refine q_lpN ?_
    refine ⟨g.next.length - (i + 1), by omega, i + 1, rfl, by omega, _, _, nf_of rfl ⟨rfl, rfl, rfl, rfl, rfl, rfl, trivial⟩ trivial, ⟨hI.bd.keep rfl rfl, hI.lt, fun j hj hS => ?_⟩, hrw, rfl⟩
    rw [← hI.fr j hj hS]
    exact if_neg (fun e => hS (by simp [e]))
  · simp only [decide_eq_false_iff_not] at hq
    obtain rfl : i = g.next.length := by omega
    repeat' first | refine c_exit ?_ | refine q_seqE ?_ | refine q_blkHit ?_ | refine q_lpE ?_ | (refine q_end ?_; refine q_r0 ?_; simp only [go_sem, Nat.reduceLT, Nat.reduceEqDiff, Nat.reduceAdd, Nat.reduceMul, Nat.reduceLeDiff, Nat.le_refl, reduceIte, reduceCtorEq])
    refine ⟨n8, k8, hI.bd, ?_, hrw2, hrw, hI.fr⟩
    refine hI.lt.trans ?_
    rw [hlr, List.append_assoc]
    rfl
set_option maxHeartbeats 4000000 in
theorem step1_cm {o : Nat → O} {nb n k : Nat} {g : G} {v : Int} {cls : List (List Int)} {N : Nat} (hg : GOk g N) {m : List (List A)} {f : Nat → Int} (hB : Bd o nb g v cls (.row 902 n)) (hL : o 902 = ⟨n, .rowA 22 1 (m ++ [[.row 10001 k]])⟩) (hR : o 10001 = ⟨k, .row 3 1 (iC (mk N f))⟩)
    (hv : 1 ≤ v ∧ v ≤ 500000) (hm : m.length ≤ 90) (hcl : cls.length ≤ 800000) :
    Cm Try.prog Hy 92 [.ptr 900 nb 0] o fun rs o' => ∃ n' k', rs = [] ∧ Bd o' nb g (v + g.ins + g.ands.length) (cls ++ clsA g v (nowA g v f g.ands.length) g.ands.length) (.row 902 n') ∧
      o' 902 = ⟨n', .rowA 22 1 (m ++ [A.t (iL (mk N (nowA g v f g.ands.length)))] :: [[.row 10000 k']])⟩ ∧ o' 10000 = ⟨k', .row 3 1 (iC (mk N (nextF g (nowA g v f g.ands.length) g.next.length)))⟩ ∧ Fr 1000 o o' [900, 901, 902, 10001, 10000] := by
  have hN := hg.hN
  have hg0 := hg.i0
  have hle := hg.le
  have hNf : N = firstN g + g.ands.length := by unfold firstN; omega
  refine Cm.settle (R := fun rs o' => ∃ n' k', rs = [] ∧ Bd o' nb g (v + g.ins + g.ands.length) (cls ++ clsA g v (nowA g v f g.ands.length) g.ands.length) (.row 902 n') ∧
      o' 902 = ⟨n', .rowA 22 1 (m ++ [.row 10001 k] :: [[.row 10000 k']])⟩ ∧ o' 10000 = ⟨k', .row 3 1 (iC (mk N (nextF g (nowA g v f g.ands.length) g.next.length)))⟩ ∧ o' 10001 = ⟨k, .row 3 1 (iC (mk N (nowA g v f g.ands.length)))⟩ ∧ Fr 1000 o o' [900, 901, 902, 10001, 10000]) ?_ ?_
  rotate_left
  · rintro rs o' ⟨n', k', rfl, h1, h2, h3, h4, h5⟩
    obtain ⟨o2, s1, s2, s3, s4⟩ := settle_mid h2 h4 (by decide)
    refine ⟨o2, s1, n', k', rfl, h1.keep (s4 _ (by decide) (by decide)) (s4 _ (by decide) (by decide)), s2, (s4 _ (by decide) (by decide)).trans h3, fun i hi hS => ?_⟩
    rw [s4 i (fun e => hS (by simp [e])) (fun e => hS (by simp [e])), h5 i hi hS]
  obtain ⟨lr, hlr⟩ : ∃ lr, lr = m ++ [[A.row 10001 k]] := ⟨_, rfl⟩
  have hlrl : lr.length = m.length + 1 := by rw [hlr]; simp
  have hlrg : lr[m.length]? = some [A.row 10001 k] := by rw [hlr]; simp
  have hM : (((m.length + 1 : Nat) : Int) - 1).toNat = m.length := by omega
  rw [← hlr] at hL
  obtain ⟨xc, ho, hc⟩ := id hB
  refine cm_of (cls := fun d => if d = 79 then 1016 else if d = 85 then 1016 else if d = 93 then 1016 else 1000 + d) tt_ok follows_ Try.func92 rfl (by decide) (Nat.le_of_ble_eq_true rfl) ?_
  rw [show Try.f92.ntmps = 123 from rfl, s0_nf]
  simp only [List.zipIdx_cons, List.zipIdx_nil, List.map_cons, List.map_nil, Nat.reduceAdd]
  repeat' first | refine c_seq ?_ | refine c_block ?_ | refine c_reg' rfl fun K hK => ?_ | refine c_draw' rfl (by kernel_rfl) fun K hK => ?_ | ((first | refine r_opN fun κ η => ?_ | refine d_opN (by kernel_rfl) fun κ η => ?_); simp only [go_sem, Nat.reduceLT, Nat.reduceEqDiff, Nat.reduceAdd, Nat.reduceMul, Nat.reduceLeDiff, Nat.le_refl, reduceIte, reduceCtorEq, ho, hL, hlrl, hM, hlrg]; (repeat refine ⟨by omega, ?_⟩); refine η _ ?_; clear η κ) | (refine r_nil (hK _ ?_); clear hK K) | refine q_seq ?_ | (refine d_nil (hK _ ?_); clear hK K)
  refine c_loop (fun q s' => ∃ i : Nat, q = g.ins.toNat - i ∧ i ≤ g.ins.toNat ∧ ∃ F oc, s' = nf 123 F oc [(0, .ptr 900 nb 0), (2, .row 10001 k), (3, .fn 84 [.row 10001 k] []), (33, .t (.i .i64 g.ins)), (34, .t (.i .i64 i))] [] ∧ SI g nb o [900, 10001] (v + i) cls n lr oc ∧ oc 10001 = ⟨k, .row 3 1 (iC (mk N (nowI v f i)))⟩) g.ins.toNat ?_ ?_
  · refine ⟨0, by omega, by omega, _, _, nf_of rfl ⟨rfl, rfl, rfl, rfl, rfl, trivial⟩ trivial, ⟨?_, hL, fun i _ _ => rfl⟩, ?_⟩
    · rw [show v + ((0 : Nat) : Int) = v from Int.add_zero v]
      exact hB
    · exact hR.trans (by rw [nowI_zero])
  rintro q s' ⟨i, rfl, hi, F, oc, rfl, hI, hrw⟩
  repeat' first | refine c_seq ?_ | refine c_reg' rfl fun K hK => ?_ | (refine r_opN fun κ η => ?_; simp only [go_sem, Nat.reduceLT, Nat.reduceEqDiff, Nat.reduceAdd, Nat.reduceMul, Nat.reduceLeDiff, Nat.le_refl, reduceIte, reduceCtorEq]; refine η _ ?_; clear η κ) | (refine r_nil (hK _ ?_); clear hK K) | refine q_seq ?_
  refine c_cond _ rfl (fun hq => ?_) (fun hq => ?_)
  · simp only [decide_eq_true_eq] at hq
    have hp : (1 + (i : Int)).toNat = 1 + i := by omega
    have hget := iC_get (mk_get (n := N) (f := nowI v f i) (show 1 + i < N by omega))
    have hlen : (iC (mk N (nowI v f i))).length = N := by rw [iC_len, mk_len]
    have hset : (iC (mk N (nowI v f i))).set (1 + i) [.i .i64 (v + i + 1)] = iC (mk N (nowI v f (i + 1))) := by
      rw [iC_set, mk_set, ← nowI_succ, Int.add_assoc]
    repeat' first | refine c_seq ?_ | refine c_block ?_ | refine c_reg' rfl fun K hK => ?_ | (refine r_opN fun κ η => ?_; simp only [go_sem, Nat.reduceLT, Nat.reduceEqDiff, Nat.reduceAdd, Nat.reduceMul, Nat.reduceLeDiff, Nat.le_refl, reduceIte, reduceCtorEq]; (repeat refine ⟨by omega, ?_⟩); refine η _ ?_; clear η κ) | (refine r_nil (hK _ ?_); clear hK K) | refine q_seq ?_ | refine c_skip ?_
    refine r_call fun κ η => ?_; simp only [go_sem, Nat.reduceLT, Nat.reduceEqDiff, Nat.reduceAdd, Nat.reduceMul, Nat.reduceLeDiff, Nat.le_refl, reduceIte, reduceCtorEq]; refine ⟨_, variable_cm Hy (by exact hI.bd) (by omega), ?_⟩; rintro _ o4 ⟨rfl, hB4, hF4⟩; simp only [go_sem, Nat.reduceLT, Nat.reduceEqDiff, Nat.reduceAdd, Nat.reduceMul, Nat.reduceLeDiff, Nat.le_refl, reduceIte, reduceCtorEq]; refine η _ ?_; clear η κ
    have h4 := (hF4 10001 (by decide) (by decide)).trans hrw
    repeat' first | refine c_reg' rfl fun K hK => ?_ | (refine r_opN fun κ η => ?_; simp only [go_sem, Nat.reduceLT, Nat.reduceEqDiff, Nat.reduceAdd, Nat.reduceMul, Nat.reduceLeDiff, Nat.le_refl, reduceIte, reduceCtorEq, h4, hp, hget, hlen]; (repeat refine ⟨by omega, ?_⟩); refine η _ ?_; clear η κ) | (refine r_nil (hK _ ?_); clear hK K) | refine q_seq ?_ | refine q_blk ?_ | refine q_lpN ?_
    refine ⟨g.ins.toNat - (i + 1), by omega, i + 1, rfl, by omega, _, _, nf_of rfl ⟨rfl, rfl, rfl, rfl, rfl, trivial⟩ trivial, ⟨?_, ?_, fun j hj hS => ?_⟩, ?_⟩
    · rw [show v + ((i + 1 : Nat) : Int) = v + i + 1 by omega]
      exact hB4.keep rfl rfl
    · exact (hF4 902 (by decide) (by decide)).trans hI.lt
    · rw [← hI.fr j hj hS]
      refine (if_neg (fun e => hS (by simp [e]))).trans (hF4 j (by omega) (fun e => hS ?_))
      simp only [List.mem_cons, List.not_mem_nil, or_false] at e ⊢
      exact .inl e
    · rw [← hset]
      rfl
  simp only [decide_eq_false_iff_not] at hq
  obtain rfl : i = g.ins.toNat := by omega
  rw [show v + ((g.ins.toNat : Nat) : Int) = v + g.ins by omega] at hI
  clear hq hi hB hL hR ho hc
  obtain ⟨xc, ho, hc⟩ := id hI.bd
  repeat' first | refine c_seq ?_ | refine c_block ?_ | refine c_reg' rfl fun K hK => ?_ | (refine r_opN fun κ η => ?_; simp only [go_sem, Nat.reduceLT, Nat.reduceEqDiff, Nat.reduceAdd, Nat.reduceMul, Nat.reduceLeDiff, Nat.le_refl, reduceIte, reduceCtorEq, ho]; (repeat refine ⟨by omega, ?_⟩); refine η _ ?_; clear η κ) | (refine r_nil (hK _ ?_); clear hK K) | refine q_seq ?_ | refine c_exit ?_ | refine q_seqE ?_ | refine q_blkHit ?_ | refine q_lpE ?_
  refine c_loop (fun q s' => ∃ i : Nat, q = g.ands.length - i ∧ i ≤ g.ands.length ∧ ∃ F oc, s' = nf 123 F oc [(0, .ptr 900 nb 0), (2, .row 10001 k), (3, .fn 84 [.row 10001 k] []), (48, .t (pL g.ands)), (49, .t (.i .i64 g.ands.length)), (50, .t (.i .i64 i))] [] ∧ SI g nb o [900, 901, 10001] (v + g.ins + i) (cls ++ clsA g v (nowA g v f g.ands.length) i) n lr oc ∧ oc 10001 = ⟨k, .row 3 1 (iC (mk N (nowA g v f i)))⟩) g.ands.length ?_ ?_
  · refine ⟨0, by omega, by omega, _, _, nf_of rfl ⟨rfl, rfl, rfl, rfl, rfl, rfl, trivial⟩ trivial, ⟨?_, hI.lt, hI.fr.sub (Nat.le_refl _) (by simp)⟩, ?_⟩
    · rw [show v + g.ins + ((0 : Nat) : Int) = v + g.ins from Int.add_zero _, show cls ++ clsA g v (nowA g v f g.ands.length) 0 = cls from by simp [clsA]]
      exact hI.bd
    · exact hrw.trans (by rw [nowA_zero])
  clear hI hrw ho hc
  rintro q s' ⟨i, rfl, hi, F, oc, rfl, hI, hrw⟩
  simp only [pL]
  repeat' first | refine c_seq ?_ | refine c_reg' rfl fun K hK => ?_ | (refine r_opN fun κ η => ?_; simp only [go_sem, Nat.reduceLT, Nat.reduceEqDiff, Nat.reduceAdd, Nat.reduceMul, Nat.reduceLeDiff, Nat.le_refl, reduceIte, reduceCtorEq]; refine η _ ?_; clear η κ) | (refine r_nil (hK _ ?_); clear hK K) | refine q_seq ?_
  refine c_cond _ rfl (fun hq => ?_) (fun hq => ?_)
  · simp only [decide_eq_true_eq] at hq
    obtain ⟨a, ha⟩ : ∃ a, g.ands[i]? = some a := ⟨_, List.getElem?_eq_getElem (by omega)⟩
    obtain ⟨⟨p1, p2, p3⟩, ⟨p4, p5, p6⟩⟩ := hg.an i a ha
    have hp : (1 + g.ins + (g.next.length : Int) + (i : Int)).toNat = firstN g + i := by unfold firstN; omega
    have hget := iC_get (mk_get (n := N) (f := nowA g v f i) (show firstN g + i < N by omega))
    have hlen : (iC (mk N (nowA g v f i))).length = N := by rw [iC_len, mk_len]
    have hset : (iC (mk N (nowA g v f i))).set (firstN g + i) [.i .i64 (v + g.ins + i + 1)] = iC (mk N (nowA g v f (i + 1))) := by
      rw [iC_set, mk_set, ← nowA_succ]
    have hx : inW (mk N (nowA g v f (i + 1))) a.1 = inF (nowA g v f g.ands.length) a.1 := by rw [inW_mk (by omega), nowA_in g v f (show i + 1 ≤ g.ands.length by omega) (by omega)]
    have hy : inW (mk N (nowA g v f (i + 1))) a.2 = inF (nowA g v f g.ands.length) a.2 := by rw [inW_mk (by omega), nowA_in g v f (show i + 1 ≤ g.ands.length by omega) (by omega)]
    have hcln := clsA_len g v (nowA g v f g.ands.length) i
    repeat' first | refine c_seq ?_ | refine c_block ?_ | refine c_reg' rfl fun K hK => ?_ | (refine r_opN fun κ η => ?_; simp only [go_sem, Nat.reduceLT, Nat.reduceEqDiff, Nat.reduceAdd, Nat.reduceMul, Nat.reduceLeDiff, Nat.le_refl, reduceIte, reduceCtorEq, ha]; (repeat refine ⟨by omega, ?_⟩); refine η _ ?_; clear η κ) | (refine r_nil (hK _ ?_); clear hK K) | refine q_seq ?_ | refine c_skip ?_
    refine r_call fun κ η => ?_; simp only [go_sem, Nat.reduceLT, Nat.reduceEqDiff, Nat.reduceAdd, Nat.reduceMul, Nat.reduceLeDiff, Nat.le_refl, reduceIte, reduceCtorEq]; refine ⟨_, variable_cm Hy (by exact hI.bd.keep rfl rfl) (by omega), ?_⟩; rintro _ o4 ⟨rfl, hB4, hF4⟩; simp only [go_sem, Nat.reduceLT, Nat.reduceEqDiff, Nat.reduceAdd, Nat.reduceMul, Nat.reduceLeDiff, Nat.le_refl, reduceIte, reduceCtorEq]; refine η _ ?_; clear η κ
    obtain ⟨xc4, ho4, hc4⟩ := id hB4
    have h4 := (hF4 10001 (by decide) (by decide)).trans hrw
    repeat' first | refine c_seq ?_ | refine c_reg' rfl fun K hK => ?_ | (refine r_opN fun κ η => ?_; simp only [go_sem, Nat.reduceLT, Nat.reduceEqDiff, Nat.reduceAdd, Nat.reduceMul, Nat.reduceLeDiff, Nat.le_refl, reduceIte, reduceCtorEq, ho4]; (repeat refine ⟨by omega, ?_⟩); refine η _ ?_; clear η κ) | (refine r_nil (hK _ ?_); clear hK K) | refine q_seq ?_
    refine r_opN fun κ η => ?_; simp only [go_sem, Nat.reduceLT, Nat.reduceEqDiff, Nat.reduceAdd, Nat.reduceMul, Nat.reduceLeDiff, Nat.le_refl, reduceIte, reduceCtorEq, G.t, iL, pL]; refine ⟨_, cfirst_ct Hy g (by omega), ?_⟩; simp only [go_sem, Nat.reduceLT, Nat.reduceEqDiff, Nat.reduceAdd, Nat.reduceMul, Nat.reduceLeDiff, Nat.le_refl, reduceIte, reduceCtorEq, G.t, iL, pL]; refine η _ ?_; clear η κ
    repeat' first | refine c_seq ?_ | refine c_draw' rfl (by kernel_rfl) fun K hK => ?_ | ((first | refine r_opN fun κ η => ?_ | refine d_opN (by kernel_rfl) fun κ η => ?_); simp only [go_sem, Nat.reduceLT, Nat.reduceEqDiff, Nat.reduceAdd, Nat.reduceMul, Nat.reduceLeDiff, Nat.le_refl, reduceIte, reduceCtorEq, h4, hp, hget, hlen]; (repeat refine ⟨by omega, ?_⟩); refine η _ ?_; clear η κ) | (refine r_nil (hK _ ?_); clear hK K) | refine q_seq ?_
    have h6 : o4 1006 = ⟨(oc 1006).gen + 1, .cells 77 [.t (.i .i64 a.1), .t (.i .i64 a.2)]⟩ := hF4 1006 (by decide) (by decide)
    have hw : ∀ x, IntKind.wrap .i64 (0 - x) = negW x := fun _ => rfl
    have hll : (cls ++ clsA g v (nowA g v f g.ands.length) i).length ≤ 900000 := by rw [List.length_append, hcln]; omega
    repeat' (refine d_opN (by kernel_rfl) fun κ η => ?_; simp only [go_sem, Nat.reduceLT, Nat.reduceEqDiff, Nat.reduceAdd, Nat.reduceMul, Nat.reduceLeDiff, Nat.le_refl, reduceIte, reduceCtorEq, h6, hset]; (repeat refine ⟨by omega, ?_⟩); refine η _ ?_; clear η κ)
    refine d_opN (by kernel_rfl) fun κ η => ?_; simp only [go_sem, Nat.reduceLT, Nat.reduceEqDiff, Nat.reduceAdd, Nat.reduceMul, Nat.reduceLeDiff, Nat.le_refl, reduceIte, reduceCtorEq, hset, hx]; refine ⟨_, rowlit_ct Hy (mk N (nowA g v f (i + 1))) a.1 ⟨p1, by rw [mk_len]; omega, by omega⟩, ?_⟩; simp only [go_sem, Nat.reduceLT, Nat.reduceEqDiff, Nat.reduceAdd, Nat.reduceMul, Nat.reduceLeDiff, Nat.le_refl, reduceIte, reduceCtorEq, hset, hx]; refine η _ ?_; clear η κ
    repeat' (refine d_opN (by kernel_rfl) fun κ η => ?_; simp only [go_sem, Nat.reduceLT, Nat.reduceEqDiff, Nat.reduceAdd, Nat.reduceMul, Nat.reduceLeDiff, Nat.le_refl, reduceIte, reduceCtorEq, h6]; (repeat refine ⟨by omega, ?_⟩); refine η _ ?_; clear η κ)
    refine d_opN (by kernel_rfl) fun κ η => ?_; simp only [go_sem, Nat.reduceLT, Nat.reduceEqDiff, Nat.reduceAdd, Nat.reduceMul, Nat.reduceLeDiff, Nat.le_refl, reduceIte, reduceCtorEq, hset, hy]; refine ⟨_, rowlit_ct Hy (mk N (nowA g v f (i + 1))) a.2 ⟨p4, by rw [mk_len]; omega, by omega⟩, ?_⟩; simp only [go_sem, Nat.reduceLT, Nat.reduceEqDiff, Nat.reduceAdd, Nat.reduceMul, Nat.reduceLeDiff, Nat.le_refl, reduceIte, reduceCtorEq, hset, hy]; refine η _ ?_; clear η κ
    repeat' first | refine c_seq ?_ | refine c_reg' rfl fun K hK => ?_ | ((first | refine r_opN fun κ η => ?_ | refine d_opN (by kernel_rfl) fun κ η => ?_); simp only [go_sem, Nat.reduceLT, Nat.reduceEqDiff, Nat.reduceAdd, Nat.reduceMul, Nat.reduceLeDiff, Nat.le_refl, reduceIte, reduceCtorEq, hw]; refine η _ ?_; clear η κ) | refine q_seq ?_ | (refine d_nil (hK _ ?_); clear hK K)
    refine r_call fun κ η => ?_; simp only [go_sem, Nat.reduceLT, Nat.reduceEqDiff, Nat.reduceAdd, Nat.reduceMul, Nat.reduceLeDiff, Nat.le_refl, reduceIte, reduceCtorEq]; refine ⟨_, add_cm Hy (c := [negW (v + g.ins + i + 1), inF (nowA g v f g.ands.length) a.1]) (by exact hB4.keep rfl rfl) (by rfl) (by omega) (by simp), ?_⟩; rintro _ o5 ⟨rfl, hB5, hF5⟩; simp only [go_sem, Nat.reduceLT, Nat.reduceEqDiff, Nat.reduceAdd, Nat.reduceMul, Nat.reduceLeDiff, Nat.le_refl, reduceIte, reduceCtorEq]; refine η _ ?_; clear η κ
    repeat' first | refine c_seq ?_ | refine c_reg' rfl fun K hK => ?_ | (refine r_opN fun κ η => ?_; simp only [go_sem, Nat.reduceLT, Nat.reduceEqDiff, Nat.reduceAdd, Nat.reduceMul, Nat.reduceLeDiff, Nat.le_refl, reduceIte, reduceCtorEq, hw]; refine η _ ?_; clear η κ) | (refine r_nil (hK _ ?_); clear hK K) | refine q_seq ?_
    refine r_call fun κ η => ?_; simp only [go_sem, Nat.reduceLT, Nat.reduceEqDiff, Nat.reduceAdd, Nat.reduceMul, Nat.reduceLeDiff, Nat.le_refl, reduceIte, reduceCtorEq]; refine ⟨_, add_cm Hy (c := [negW (v + g.ins + i + 1), inF (nowA g v f g.ands.length) a.2]) (by exact hB5.keep rfl rfl) (by rfl) (by rw [List.length_append]; show _ + 1 ≤ _; omega) (by simp), ?_⟩; rintro _ o6 ⟨rfl, hB6, hF6⟩; simp only [go_sem, Nat.reduceLT, Nat.reduceEqDiff, Nat.reduceAdd, Nat.reduceMul, Nat.reduceLeDiff, Nat.le_refl, reduceIte, reduceCtorEq]; refine η _ ?_; clear η κ
    repeat' first | refine c_reg' rfl fun K hK => ?_ | (refine r_opN fun κ η => ?_; simp only [go_sem, Nat.reduceLT, Nat.reduceEqDiff, Nat.reduceAdd, Nat.reduceMul, Nat.reduceLeDiff, Nat.le_refl, reduceIte, reduceCtorEq, hw]; refine η _ ?_; clear η κ) | (refine r_nil (hK _ ?_); clear hK K) | refine q_seq ?_
    refine r_call fun κ η => ?_; simp only [go_sem, Nat.reduceLT, Nat.reduceEqDiff, Nat.reduceAdd, Nat.reduceMul, Nat.reduceLeDiff, Nat.le_refl, reduceIte, reduceCtorEq]; refine ⟨_, add_cm Hy (c := [v + g.ins + i + 1, negW (inF (nowA g v f g.ands.length) a.1), negW (inF (nowA g v f g.ands.length) a.2)]) (by exact hB6.keep rfl rfl) (by rfl) (by rw [List.length_append, List.length_append]; show _ + 1 + 1 ≤ _; omega) (by simp), ?_⟩; rintro _ o7 ⟨rfl, hB7, hF7⟩; simp only [go_sem, Nat.reduceLT, Nat.reduceEqDiff, Nat.reduceAdd, Nat.reduceMul, Nat.reduceLeDiff, Nat.le_refl, reduceIte, reduceCtorEq]; refine η _ ?_; clear η κ
    repeat' first | refine c_reg' rfl fun K hK => ?_ | (refine r_opN fun κ η => ?_; simp only [go_sem, Nat.reduceLT, Nat.reduceEqDiff, Nat.reduceAdd, Nat.reduceMul, Nat.reduceLeDiff, Nat.le_refl, reduceIte, reduceCtorEq]; (repeat refine ⟨by omega, ?_⟩); refine η _ ?_; clear η κ) | (refine r_nil (hK _ ?_); clear hK K) | refine q_seq ?_ | refine q_blk ?_ | refine q_lpN ?_
    have keep : ∀ j, (j < 1000 ∨ 10000 ≤ j) → j ∉ [900, 901, 10001] → o7 j = oc j := fun j hj hS => by
      simp only [List.mem_cons, List.not_mem_nil, or_false, not_or] at hS
      rw [hF7 j (by omega) (by simp; omega)]
      refine (lookO_other (by simp; omega)).trans ?_
      rw [hF6 j (by omega) (by simp; omega)]
      refine (lookO_other (by simp; omega)).trans ?_
      rw [hF5 j (by omega) (by simp; omega)]
      refine (lookO_other (by simp; omega)).trans ?_
      rw [hF4 j (by omega) (by simp; omega)]
      exact lookO_other (by simp; omega)
    refine ⟨g.ands.length - (i + 1), by omega, i + 1, rfl, by omega, _, _, nf_of rfl ⟨rfl, rfl, rfl, rfl, rfl, rfl, trivial⟩ trivial, ⟨?_, ?_, fun j hj hS => ?_⟩, ?_⟩
    · rw [show v + g.ins + ((i + 1 : Nat) : Int) = v + g.ins + i + 1 by omega, clsA_succ g v _ ha, show v + g.ins + 1 + (i : Int) = v + g.ins + i + 1 by omega]
      refine (show Bd o7 nb g _ _ _ from ?_)
      simp only [andCl, List.append_assoc, List.cons_append, List.nil_append] at hB7 ⊢
      exact hB7
    · exact (keep 902 (by decide) (by decide)).trans hI.lt
    · rw [← hI.fr j hj hS]
      exact keep j hj hS
    · exact (hF7 10001 (by decide) (by decide)).trans ((hF6 10001 (by decide) (by decide)).trans (hF5 10001 (by decide) (by decide)))
  simp only [decide_eq_false_iff_not] at hq
  obtain rfl : i = g.ands.length := by omega
  clear hq hi
  repeat' first | refine c_seq ?_ | refine c_reg' rfl fun K hK => ?_ | (refine r_opN fun κ η => ?_; simp only [go_sem, Nat.reduceLT, Nat.reduceEqDiff, Nat.reduceAdd, Nat.reduceMul, Nat.reduceLeDiff, Nat.le_refl, reduceIte, reduceCtorEq]; refine η _ ?_; clear η κ) | refine q_seq ?_ | refine c_exit ?_ | refine q_seqE ?_ | refine q_blkHit ?_ | refine q_lpE ?_
  refine r_call fun κ η => ?_; simp only [go_sem, Nat.reduceLT, Nat.reduceEqDiff, Nat.reduceAdd, Nat.reduceMul, Nat.reduceLeDiff, Nat.le_refl, reduceIte, reduceCtorEq]; refine ⟨_, row_cm Hy (m := lr) (r := 10000) (N := N) (by exact hI.bd) (.inr ⟨n, rfl, hI.lt⟩) (by omega) (by omega) (by decide) (by omega), ?_⟩; rintro _ o8 ⟨n8, k8, rfl, hB8, hL8, hR8, hF8⟩; simp only [go_sem, Nat.reduceLT, Nat.reduceEqDiff, Nat.reduceAdd, Nat.reduceMul, Nat.reduceLeDiff, Nat.le_refl, reduceIte, reduceCtorEq]; refine η _ ?_; clear η κ
  obtain ⟨xc, ho, hc⟩ := id hB8
  have hRR := (hF8 10001 (by decide) (by decide)).trans hrw
  repeat' first | refine c_seq ?_ | refine c_block ?_ | refine c_reg' rfl fun K hK => ?_ | (refine r_opN fun κ η => ?_; simp only [go_sem, Nat.reduceLT, Nat.reduceEqDiff, Nat.reduceAdd, Nat.reduceMul, Nat.reduceLeDiff, Nat.le_refl, reduceIte, reduceCtorEq, ho]; (repeat refine ⟨by omega, ?_⟩); refine η _ ?_; clear η κ) | (refine r_nil (hK _ ?_); clear hK K) | refine q_seq ?_
  refine c_loop (fun q s' => ∃ i : Nat, q = g.next.length - i ∧ i ≤ g.next.length ∧ ∃ F oc, s' = nf 123 F oc [(0, .ptr 900 nb 0), (3, .fn 84 [.row 10001 k] []), (10, .row 10000 k8), (102, .t (iL g.next)), (103, .t (.i .i64 g.next.length)), (104, .t (.i .i64 i))] [] ∧ SI g nb o [900, 901, 902, 10001, 10000] (v + g.ins + g.ands.length) (cls ++ clsA g v (nowA g v f g.ands.length) g.ands.length) n8 (lr ++ [[.row 10000 k8]]) oc ∧
      oc 10001 = ⟨k, .row 3 1 (iC (mk N (nowA g v f g.ands.length)))⟩ ∧ oc 10000 = ⟨k8, .row 3 1 (iC (mk N (nextF g (nowA g v f g.ands.length) i)))⟩) g.next.length ?_ ?_
  · refine ⟨0, by omega, by omega, _, _, nf_of rfl ⟨rfl, rfl, rfl, rfl, rfl, rfl, trivial⟩ trivial, ⟨hB8, hL8, fun j hj hS => ?_⟩, hRR, hR8.trans (by rw [nextF_zero])⟩
    simp only [List.mem_cons, List.not_mem_nil, or_false, not_or] at hS
    exact (hF8 j (by omega) (by simp; omega)).trans (hI.fr j hj (by simp; omega))
  clear hI hrw hB8 hL8 hR8 hF8 hRR ho hc
  rintro q s' ⟨i, rfl, hi, F, oc, rfl, hI, hrw, hrw2⟩
  simp only [iL]
  repeat' first | refine c_seq ?_ | refine c_reg' rfl fun K hK => ?_ | (refine r_opN fun κ η => ?_; simp only [go_sem, Nat.reduceLT, Nat.reduceEqDiff, Nat.reduceAdd, Nat.reduceMul, Nat.reduceLeDiff, Nat.le_refl, reduceIte, reduceCtorEq]; refine η _ ?_; clear η κ) | (refine r_nil (hK _ ?_); clear hK K) | refine q_seq ?_
  refine c_cond _ rfl (fun hq => ?_) (fun hq => ?_)
  · simp only [decide_eq_true_eq] at hq
    obtain ⟨x, hx⟩ : ∃ x, g.next[i]? = some x := ⟨_, List.getElem?_eq_getElem (by omega)⟩
    obtain ⟨p1, p2, p3⟩ := hg.nx x (List.mem_of_getElem? hx)
    obtain ⟨xc, ho, hc⟩ := id hI.bd
    have hp : (1 + g.ins + (i : Int)).toNat = 1 + g.ins.toNat + i := by omega
    have hget := iC_get (mk_get (n := N) (f := nextF g (nowA g v f g.ands.length) i) (show 1 + g.ins.toNat + i < N by omega))
    have hlen : (iC (mk N (nextF g (nowA g v f g.ands.length) i))).length = N := by rw [iC_len, mk_len]
    have hset : (iC (mk N (nextF g (nowA g v f g.ands.length) i))).set (1 + g.ins.toNat + i) [.i .i64 (inF (nowA g v f g.ands.length) x)] = iC (mk N (nextF g (nowA g v f g.ands.length) (i + 1))) := by
      rw [iC_set, mk_set, nextF_succ g _ i hx]
    have hxx : inW (mk N (nowA g v f g.ands.length)) x = inF (nowA g v f g.ands.length) x := inW_mk p2
    repeat' first | refine c_seq ?_ | refine c_block ?_ | refine c_reg' rfl fun K hK => ?_ | refine c_draw' rfl (by kernel_rfl) fun K hK => ?_ | ((first | refine r_opN fun κ η => ?_ | refine d_opN (by kernel_rfl) fun κ η => ?_); simp only [go_sem, Nat.reduceLT, Nat.reduceEqDiff, Nat.reduceAdd, Nat.reduceMul, Nat.reduceLeDiff, Nat.le_refl, reduceIte, reduceCtorEq, hx, ho, hrw, hrw2]; (repeat refine ⟨by omega, ?_⟩); refine η _ ?_; clear η κ) | (refine r_nil (hK _ ?_); clear hK K) | refine q_seq ?_ | refine c_skip ?_
    refine d_opN (by kernel_rfl) fun κ η => ?_; simp only [go_sem, Nat.reduceLT, Nat.reduceEqDiff, Nat.reduceAdd, Nat.reduceMul, Nat.reduceLeDiff, Nat.le_refl, reduceIte, reduceCtorEq, hrw, hxx]; refine ⟨_, rowlit_ct Hy (mk N (nowA g v f g.ands.length)) x ⟨p1, by rw [mk_len]; omega, by omega⟩, ?_⟩; simp only [go_sem, Nat.reduceLT, Nat.reduceEqDiff, Nat.reduceAdd, Nat.reduceMul, Nat.reduceLeDiff, Nat.le_refl, reduceIte, reduceCtorEq, hrw, hxx]; refine η _ ?_; clear η κ
    repeat' first | refine c_reg' rfl fun K hK => ?_ | ((first | refine r_opN fun κ η => ?_ | refine d_opN (by kernel_rfl) fun κ η => ?_); simp only [go_sem, Nat.reduceLT, Nat.reduceEqDiff, Nat.reduceAdd, Nat.reduceMul, Nat.reduceLeDiff, Nat.le_refl, reduceIte, reduceCtorEq, hrw2, hp, hget, hlen, hset]; (repeat refine ⟨by omega, ?_⟩); refine η _ ?_; clear η κ) | (refine r_nil (hK _ ?_); clear hK K) | refine q_seq ?_ | (refine d_nil (hK _ ?_); clear hK K) | refine q_blk ?_ | refine q_lpN ?_
    refine ⟨g.next.length - (i + 1), by omega, i + 1, rfl, by omega, _, _, nf_of rfl ⟨rfl, rfl, rfl, rfl, rfl, rfl, trivial⟩ trivial, ⟨hI.bd.keep rfl rfl, hI.lt, fun j hj hS => ?_⟩, hrw, rfl⟩
    rw [← hI.fr j hj hS]
    exact if_neg (fun e => hS (by simp [e]))
  · simp only [decide_eq_false_iff_not] at hq
    obtain rfl : i = g.next.length := by omega
    repeat' first | refine c_exit ?_ | refine q_seqE ?_ | refine q_blkHit ?_ | refine q_lpE ?_ | (refine q_end ?_; refine q_r0 ?_; simp only [go_sem, Nat.reduceLT, Nat.reduceEqDiff, Nat.reduceAdd, Nat.reduceMul, Nat.reduceLeDiff, Nat.le_refl, reduceIte, reduceCtorEq])
    refine ⟨n8, k8, hI.bd, ?_, hrw2, hrw, hI.fr⟩
    refine hI.lt.trans ?_
    rw [hlr, List.append_assoc]
    rfl
end Go.Proofs.Ytpbfkpdfodmcaaa
