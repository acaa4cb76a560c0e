import Derived.Test.YtpbfkpdfodmcaaaG15
import Derived.Test.YtpbfkpdfodmcaaaA8
namespace Go.Proofs.Ytpbfkpdfodmcaaa
open Go.RowKit
set_option maxRecDepth 100000
set_option linter.unusedSimpArgs false
variable (Hy : World → Prop)
attribute [local irreducible] runM runD cwp seqQ blkQ lpQ retQ asQ bdQ
/-- the reference's way to close up -/
def rclS (g : G) (M : List Bool) : Nat → List (Int × Int) × List Int
  | 0 => ([], to0 g.first.toNat)
  | k + 1 => if M.getD (g.first + k).toNat false = true then ((rclS g M k).1 ++ [(litB ((rclS g M k).2 ++ [2 * (g.first + (rclS g M k).1.length)]) (g.ands.getD k (0, 0)).1, litB ((rclS g M k).2 ++ [2 * (g.first + (rclS g M k).1.length)]) (g.ands.getD k (0, 0)).2)], (rclS g M k).2 ++ [2 * (g.first + (rclS g M k).1.length)])
    else ((rclS g M k).1, (rclS g M k).2 ++ [2 * (g.first + (rclS g M k).1.length)])
structure RS (first : Int) (k : Nat) (s : List (Int × Int) × List Int) : Prop where
  len : s.2.length = first.toNat + k
  few : s.1.length ≤ k
  bd : ∀ x ∈ s.2, 0 ≤ x ∧ x ≤ 2 * (first + k)
theorem rclS_ok {g : G} {M : List Bool} (hf : 1 ≤ g.first) : ∀ k, RS g.first k (rclS g M k)
  | 0 => ⟨by simp [rclS, to0_len], Nat.le_refl _, fun x hx => by
      obtain ⟨i, hi, rfl⟩ := List.mem_map.1 hx
      have := List.mem_range.1 hi
      omega⟩
  | k + 1 => by
    obtain ⟨h1, h2, h3⟩ := rclS_ok (M := M) hf k
    have hb : ∀ x ∈ (rclS g M k).2 ++ [2 * (g.first + (rclS g M k).1.length)], 0 ≤ x ∧ x ≤ 2 * (g.first + ((k + 1 : Nat) : Int)) := fun x hx => by
      rcases List.mem_append.1 hx with hx | hx
      · have := h3 x hx
        omega
      · obtain rfl := List.mem_singleton.1 hx
        omega
    unfold rclS
    split
    · refine ⟨?_, ?_, hb⟩
      · rw [List.length_append, List.length_singleton, h1]; omega
      · rw [List.length_append, List.length_singleton]; omega
    · refine ⟨?_, ?_, hb⟩
      · rw [List.length_append, List.length_singleton, h1]; omega
      · show (rclS g M k).1.length ≤ _
        omega
def rcloseG (g : G) : G := ⟨g.ins, g.next.map (litB (rclS g (ledL g) g.ands.length).2), g.init, (rclS g (ledL g) g.ands.length).1, g.outs.map (litB (rclS g (ledL g) g.ands.length).2)⟩
/-- own ands of the reference: none, or a row -/
def OwA (l : List (Int × Int)) (x : A) (o : Nat → O) : Prop := (l = [] ∧ x = .nilS) ∨ ∃ g, x = .row 70 g ∧ o 70 = ⟨g, .row 77 2 (l.map fun x => [.i .i64 x.1, .i .i64 x.2])⟩
set_option maxHeartbeats 4000000 in
theorem rclosed_ct (g : G) (hok : g.Ok) (hl : 0 ≤ g.ins ∧ g.ins ≤ 4000 ∧ g.top ≤ 4000 ∧ (g.outs.length : Int) ≤ 4000) : Ct Try.prog Hy 61 [g.t] [(rcloseG g).t] := by
  obtain ⟨l1, l2, l3, l4⟩ := hl
  have hlen := hok.len
  have e1 : g.first = 1 + g.ins + g.next.length := rfl
  have e2 : g.top = g.ins + g.next.length + g.ands.length := rfl
  have hfi := rfirst_ct Hy g (by omega)
  rw [← e1] at hfi
  have hled := rled_ct Hy g hok (by omega)
  have hll := ledL_len g
  have hlit : ∀ l : List Int, (∀ x ∈ l, litOk x g.top = true) → Lits (g.first.toNat + g.ands.length) l := fun l h x hx => by
    have := of_decide_eq_true (h x hx)
    omega
  have ln := hlit _ hok.n
  have lo := hlit _ hok.o
  unfold rcloseG
  generalize ledL g = M at *
  obtain ⟨n, hn⟩ : ∃ n : Nat, (n : Int) = g.first := ⟨g.first.toNat, by omega⟩
  refine ct_of (cls := _root_.id) tt_ok follows_ Try.func61 rfl (by decide) (Nat.le_of_ble_eq_true rfl) ?_
  rw [show Try.f61.ntmps = 83 from rfl, s0_nf]
  simp only [List.zipIdx_cons, List.zipIdx_nil, List.map_cons, List.map_nil, Nat.reduceAdd, G.t, iL, pL]
  repeat' first | refine c_seq ?_ | refine c_reg' rfl fun K hK => ?_ | (refine r_opN fun κ η => ?_; simp only [go_sem, Nat.reduceLT, Nat.reduceEqDiff, Nat.reduceAdd, Nat.reduceMul, Nat.reduceLeDiff, Nat.le_refl, reduceIte, reduceCtorEq]; refine η _ ?_; clear η κ) | (refine r_nil (hK _ ?_); clear hK K) | refine q_seq ?_
  refine r_opN fun κ η => ?_; simp only [go_sem, Nat.reduceLT, Nat.reduceEqDiff, Nat.reduceAdd, Nat.reduceMul, Nat.reduceLeDiff, Nat.le_refl, reduceIte, reduceCtorEq, G.t, iL, pL, bL]; refine ⟨_, hled, ?_⟩; simp only [go_sem, Nat.reduceLT, Nat.reduceEqDiff, Nat.reduceAdd, Nat.reduceMul, Nat.reduceLeDiff, Nat.le_refl, reduceIte, reduceCtorEq, G.t, iL, pL, bL]; refine η _ ?_; clear η κ
  repeat' first | refine c_seq ?_ | refine c_block ?_ | refine c_reg' rfl fun K hK => ?_ | (refine r_opN fun κ η => ?_; simp only [go_sem, Nat.reduceLT, Nat.reduceEqDiff, Nat.reduceAdd, Nat.reduceMul, Nat.reduceLeDiff, Nat.le_refl, reduceIte, reduceCtorEq]; (repeat refine ⟨by omega, ?_⟩); refine η _ ?_; clear η κ) | (refine r_nil (hK _ ?_); clear hK K) | refine q_seq ?_
  refine c_loop (fun m s' => ∃ i : Nat, m = n - i ∧ i ≤ n ∧ ∃ F G0 x, s' = nf 83 F G0 [(1, .ptr 1 1 0), (2, .ptr 2 1 0), (3, .t (bL M)), (4, x), (5, .ptr 5 1 0), (6, .t (.i .i64 i))] [(5, ⟨1, .cells 25 [.t (.i .i64 g.ins), .nilS, .t (iL g.init), .nilS, .nilS]⟩), (2, ⟨1, .cells 25 [.t (.i .i64 0), .nilS, .nilS, .nilS, .nilS]⟩), (1, ⟨1, .cells 25 g.cells⟩)] ∧ ((i = 0 ∧ x = .nilS) ∨ ∃ q, x = .row 25 q ∧ G0 25 = ⟨q, .row 3 1 ((to0 i).map fun x => [.i .i64 x])⟩)) n ?_ ?_
  · exact ⟨0, by omega, by omega, _, _, _, nf_of rfl ⟨rfl, rfl, rfl, rfl, rfl, rfl, trivial⟩ ⟨rfl, rfl, rfl, trivial⟩, .inl ⟨rfl, rfl⟩⟩
  rintro m s' ⟨i, rfl, hi, F, G0, x, rfl, hx⟩
  simp only [bL, iL, G.cells, pL]
  repeat' first | refine c_seq ?_ | refine c_reg' rfl fun K hK => ?_ | (refine r_opN fun κ η => ?_; simp only [go_sem, Nat.reduceLT, Nat.reduceEqDiff, Nat.reduceAdd, Nat.reduceMul, Nat.reduceLeDiff, Nat.le_refl, reduceIte, reduceCtorEq]; refine η _ ?_; clear η κ)
  refine r_opN fun κ η => ?_; simp only [go_sem, Nat.reduceLT, Nat.reduceEqDiff, Nat.reduceAdd, Nat.reduceMul, Nat.reduceLeDiff, Nat.le_refl, reduceIte, reduceCtorEq, G.t, iL, pL]; refine ⟨_, hfi, ?_⟩; simp only [go_sem, Nat.reduceLT, Nat.reduceEqDiff, Nat.reduceAdd, Nat.reduceMul, Nat.reduceLeDiff, Nat.le_refl, reduceIte, reduceCtorEq, G.t, iL, pL]; refine η _ ?_; clear η κ
  repeat' first | (refine r_opN fun κ η => ?_; simp only [go_sem, Nat.reduceLT, Nat.reduceEqDiff, Nat.reduceAdd, Nat.reduceMul, Nat.reduceLeDiff, Nat.le_refl, reduceIte, reduceCtorEq]; refine η _ ?_; clear η κ) | (refine r_nil (hK _ ?_); clear hK K) | refine q_seq ?_
  refine c_cond _ rfl (fun hq => ?_) (fun hq => ?_)
  · simp only [decide_eq_true_eq] at hq
    rcases hx with ⟨rfl, rfl⟩ | ⟨q, rfl, hr⟩
    · repeat' first | refine c_seq ?_ | refine c_block ?_ | refine c_reg' rfl fun K hK => ?_ | (refine r_opN fun κ η => ?_; simp only [go_sem, Nat.reduceLT, Nat.reduceEqDiff, Nat.reduceAdd, Nat.reduceMul, Nat.reduceLeDiff, Nat.le_refl, reduceIte, reduceCtorEq]; (repeat refine ⟨by omega, ?_⟩); refine η _ ?_; clear η κ) | (refine r_nil (hK _ ?_); clear hK K) | refine q_seq ?_ | refine q_blk ?_ | refine c_skip ?_ | refine q_lpN ?_
      exact ⟨n - (0 + 1), by omega, 0 + 1, rfl, by omega, _, _, _, nf_of rfl ⟨rfl, rfl, rfl, rfl, rfl, rfl, trivial⟩ ⟨rfl, rfl, rfl, trivial⟩, .inr ⟨_, rfl, rfl⟩⟩
    · have htl : ((to0 i).map fun x => [T.i .i64 x]).length = i := by rw [List.length_map, to0_len]
      have hsu : ((to0 (i + 1)).map fun x => [T.i .i64 x]) = ((to0 i).map fun x => [T.i .i64 x]) ++ [[.i .i64 (2 * (i : Int))]] := by rw [to0_succ, List.map_append]; rfl
      generalize ((to0 i).map fun x => [T.i .i64 x]) = rw0 at hr htl hsu
      repeat' first | refine c_seq ?_ | refine c_block ?_ | refine c_reg' rfl fun K hK => ?_ | (refine r_opN fun κ η => ?_; simp only [go_sem, Nat.reduceLT, Nat.reduceEqDiff, Nat.reduceAdd, Nat.reduceMul, Nat.reduceLeDiff, Nat.le_refl, reduceIte, reduceCtorEq, hr]; (repeat refine ⟨by omega, ?_⟩); refine η _ ?_; clear η κ) | (refine r_nil (hK _ ?_); clear hK K) | refine q_seq ?_ | refine q_blk ?_ | refine c_skip ?_ | refine q_lpN ?_
      exact ⟨n - (i + 1), by omega, i + 1, rfl, by omega, _, _, _, nf_of rfl ⟨rfl, rfl, rfl, rfl, rfl, rfl, trivial⟩ ⟨rfl, rfl, rfl, trivial⟩, .inr ⟨_, rfl, by rw [hsu]; rfl⟩⟩
  simp only [decide_eq_false_iff_not] at hq
  obtain rfl : i = n := by omega
  rcases hx with ⟨h0, rfl⟩ | ⟨q, rfl, hr⟩
  · omega
  rw [show i = g.first.toNat by omega] at hr
  clear hn hi hq
  repeat' first | refine c_seq ?_ | refine c_block ?_ | refine c_reg' rfl fun K hK => ?_ | (refine r_opN fun κ η => ?_; simp only [go_sem, Nat.reduceLT, Nat.reduceEqDiff, Nat.reduceAdd, Nat.reduceMul, Nat.reduceLeDiff, Nat.le_refl, reduceIte, reduceCtorEq]; refine η _ ?_; clear η κ) | (refine r_nil (hK _ ?_); clear hK K) | refine q_seq ?_ | refine c_exit ?_ | refine q_seqE ?_ | refine q_blkHit ?_ | refine q_lpE ?_
  refine c_loop (fun m s' => ∃ k : Nat, m = g.ands.length - k ∧ k ≤ g.ands.length ∧ ∃ F G0 q xa, s' = nf 83 F G0 [(1, .ptr 1 1 0), (2, .ptr 2 1 0), (3, .t (bL M)), (4, .row 25 q), (5, .ptr 5 1 0), (7, .t (.i .i64 k))] [] ∧ G0 25 = ⟨q, .row 3 1 ((rclS g M k).2.map fun x => [.i .i64 x])⟩ ∧ G0 5 = ⟨1, .cells 25 [.t (.i .i64 g.ins), .nilS, .t (iL g.init), xa, .nilS]⟩ ∧ G0 2 = ⟨1, .cells 25 [.t (.i .i64 0), .nilS, .nilS, .nilS, .nilS]⟩ ∧ G0 1 = ⟨1, .cells 25 g.cells⟩ ∧ OwA (rclS g M k).1 xa G0) g.ands.length ?_ ?_
  · exact ⟨0, by omega, by omega, _, _, _, _, nf_of rfl ⟨rfl, rfl, rfl, rfl, rfl, rfl, trivial⟩ trivial, hr, rfl, rfl, rfl, .inl ⟨rfl, rfl⟩⟩
  clear hr q F G0
  rintro m s' ⟨k, rfl, hk, F, G0, q, xa, rfl, g25, g5, g2, g1, hxa⟩
  obtain ⟨r1, r2, r3⟩ := rclS_ok (g := g) (M := M) (by omega) k
  simp only [G.cells, iL, pL] at g1 g5
  simp only [bL]
  repeat' first | refine c_seq ?_ | refine c_reg' rfl fun K hK => ?_ | (refine r_opN fun κ η => ?_; simp only [go_sem, Nat.reduceLT, Nat.reduceEqDiff, Nat.reduceAdd, Nat.reduceMul, Nat.reduceLeDiff, Nat.le_refl, reduceIte, reduceCtorEq, g1]; (repeat refine ⟨by omega, ?_⟩); refine η _ ?_; clear η κ) | (refine r_nil (hK _ ?_); clear hK K) | refine q_seq ?_
  refine c_cond _ rfl (fun hq => ?_) (fun hq => ?_)
  · simp only [decide_eq_true_eq] at hq
    obtain ⟨x, hx⟩ : ∃ x, g.ands[k]? = some x := ⟨_, List.getElem?_eq_getElem (by omega)⟩
    obtain ⟨⟨x1, x2⟩, x3, x4⟩ := hok.aok l1 k x hx
    obtain ⟨y, hy⟩ : ∃ y, M[(g.first + k).toNat]? = some y := ⟨_, List.getElem?_eq_getElem (by omega)⟩
    have hyd : M.getD (g.first + k).toNat false = y := by rw [List.getD_eq_getElem?_getD, hy]; rfl
    have hsu : rclS g M (k + 1) = if y = true then ((rclS g M k).1 ++ [(litB ((rclS g M k).2 ++ [2 * (g.first + (rclS g M k).1.length)]) x.1, litB ((rclS g M k).2 ++ [2 * (g.first + (rclS g M k).1.length)]) x.2)], (rclS g M k).2 ++ [2 * (g.first + (rclS g M k).1.length)])
      else ((rclS g M k).1, (rclS g M k).2 ++ [2 * (g.first + (rclS g M k).1.length)]) := by
      conv => lhs; unfold rclS
      rw [hyd, List.getD_eq_getElem?_getD (l := g.ands), hx, Option.getD_some]
    generalize rclS g M k = s at *
    have hln : (s.2 ++ [2 * (g.first + (s.1.length : Int))]).length = g.first.toNat + k + 1 := by rw [List.length_append, List.length_singleton, r1]
    have hbd : ∀ z ∈ s.2 ++ [2 * (g.first + (s.1.length : Int))], 0 ≤ z ∧ z ≤ 1000000 := fun z hz => by
      rcases List.mem_append.1 hz with hz | hz
      · have := r3 z hz; omega
      · obtain rfl := List.mem_singleton.1 hz; omega
    have b1 := become_ct Hy (s.2 ++ [2 * (g.first + (s.1.length : Int))]) x.1 ⟨x1, by omega⟩ (by omega) hbd
    have b2 := become_ct Hy (s.2 ++ [2 * (g.first + (s.1.length : Int))]) x.2 ⟨x3, by omega⟩ (by omega) hbd
    simp only [iL, List.map_append, List.map_cons, List.map_nil] at b1 b2
    have hmap : (s.2 ++ [2 * (g.first + (s.1.length : Int))]).map (fun x => [T.i .i64 x]) = (s.2.map fun x => [T.i .i64 x]) ++ [[.i .i64 (2 * (g.first + (s.1.length : Int)))]] := by rw [List.map_append]; rfl
    have hl2 : (s.2.map fun x => [T.i .i64 x]).length = g.first.toNat + k := by rw [List.length_map, r1]
    generalize litB (s.2 ++ [2 * (g.first + (s.1.length : Int))]) x.1 = v1 at *
    generalize litB (s.2 ++ [2 * (g.first + (s.1.length : Int))]) x.2 = v2 at *
    rw [← hmap] at b1 b2
    generalize hto : s.2 ++ [2 * (g.first + (s.1.length : Int))] = to at *
    rw [hmap] at b1 b2
    generalize (s.2.map fun x => [T.i .i64 x]) = tr at *
    have hla : (s.1.map fun x => [T.i .i64 x.1, T.i .i64 x.2]).length = s.1.length := List.length_map _
    rcases hxa with ⟨ha, rfl⟩ | ⟨ga, rfl, g70⟩
    · have ha0 : (s.1.length : Int) = 0 := by rw [ha]; rfl
      rw [ha0] at b1 b2 hmap
      repeat' first | refine c_seq ?_ | refine c_block ?_ | refine c_draw' rfl (by kernel_rfl) fun K hK => ?_ | (refine d_opN (by kernel_rfl) fun κ η => ?_; simp only [go_sem, Nat.reduceLT, Nat.reduceEqDiff, Nat.reduceAdd, Nat.reduceMul, Nat.reduceLeDiff, Nat.le_refl, reduceIte, reduceCtorEq, g1, g5, g25]; refine η _ ?_; clear η κ) | refine q_seq ?_ | refine c_skip ?_
      refine d_opN (by kernel_rfl) fun κ η => ?_; simp only [go_sem, Nat.reduceLT, Nat.reduceEqDiff, Nat.reduceAdd, Nat.reduceMul, Nat.reduceLeDiff, Nat.le_refl, reduceIte, reduceCtorEq, G.t, iL, pL]; refine ⟨_, hfi, ?_⟩; simp only [go_sem, Nat.reduceLT, Nat.reduceEqDiff, Nat.reduceAdd, Nat.reduceMul, Nat.reduceLeDiff, Nat.le_refl, reduceIte, reduceCtorEq, G.t, iL, pL]; refine η _ ?_; clear η κ
      repeat' first | refine c_seq ?_ | refine c_reg' rfl fun K hK => ?_ | ((first | refine r_opN fun κ η => ?_ | refine d_opN (by kernel_rfl) fun κ η => ?_); simp only [go_sem, Nat.reduceLT, Nat.reduceEqDiff, Nat.reduceAdd, Nat.reduceMul, Nat.reduceLeDiff, Nat.le_refl, reduceIte, reduceCtorEq, g1, g5, g25, hl2, hy]; (repeat refine ⟨by omega, ?_⟩); refine η _ ?_; clear η κ) | refine q_seq ?_ | (refine d_nil (hK _ ?_); clear hK K)
      refine r_opN fun κ η => ?_; simp only [go_sem, Nat.reduceLT, Nat.reduceEqDiff, Nat.reduceAdd, Nat.reduceMul, Nat.reduceLeDiff, Nat.le_refl, reduceIte, reduceCtorEq, G.t, iL, pL]; refine ⟨_, hfi, ?_⟩; simp only [go_sem, Nat.reduceLT, Nat.reduceEqDiff, Nat.reduceAdd, Nat.reduceMul, Nat.reduceLeDiff, Nat.le_refl, reduceIte, reduceCtorEq, G.t, iL, pL]; refine η _ ?_; clear η κ
      repeat' first | (refine r_opN fun κ η => ?_; simp only [go_sem, Nat.reduceLT, Nat.reduceEqDiff, Nat.reduceAdd, Nat.reduceMul, Nat.reduceLeDiff, Nat.le_refl, reduceIte, reduceCtorEq, g1, g5, g25, hl2, hy]; (repeat refine ⟨by omega, ?_⟩); refine η _ ?_; clear η κ) | (refine r_nil (hK _ ?_); clear hK K) | refine q_seq ?_
      refine c_cond _ rfl (fun hq2 => ?_) (fun hq2 => ?_)
      · rw [if_pos hq2] at hsu
        repeat' first | refine c_draw' rfl (by kernel_rfl) fun K hK => ?_ | (refine d_opN (by kernel_rfl) fun κ η => ?_; simp only [go_sem, Nat.reduceLT, Nat.reduceEqDiff, Nat.reduceAdd, Nat.reduceMul, Nat.reduceLeDiff, Nat.le_refl, reduceIte, reduceCtorEq, g1, g5, hx]; (repeat refine ⟨by omega, ?_⟩); refine η _ ?_; clear η κ)
        refine d_opN (by kernel_rfl) fun κ η => ?_; simp only [go_sem, Nat.reduceLT, Nat.reduceEqDiff, Nat.reduceAdd, Nat.reduceMul, Nat.reduceLeDiff, Nat.le_refl, reduceIte, reduceCtorEq]; refine ⟨_, b1, ?_⟩; simp only [go_sem, Nat.reduceLT, Nat.reduceEqDiff, Nat.reduceAdd, Nat.reduceMul, Nat.reduceLeDiff, Nat.le_refl, reduceIte, reduceCtorEq]; refine η _ ?_; clear η κ
        repeat' (refine d_opN (by kernel_rfl) fun κ η => ?_; simp only [go_sem, Nat.reduceLT, Nat.reduceEqDiff, Nat.reduceAdd, Nat.reduceMul, Nat.reduceLeDiff, Nat.le_refl, reduceIte, reduceCtorEq, g1, g5, hx]; (repeat refine ⟨by omega, ?_⟩); refine η _ ?_; clear η κ)
        refine d_opN (by kernel_rfl) fun κ η => ?_; simp only [go_sem, Nat.reduceLT, Nat.reduceEqDiff, Nat.reduceAdd, Nat.reduceMul, Nat.reduceLeDiff, Nat.le_refl, reduceIte, reduceCtorEq]; refine ⟨_, b2, ?_⟩; simp only [go_sem, Nat.reduceLT, Nat.reduceEqDiff, Nat.reduceAdd, Nat.reduceMul, Nat.reduceLeDiff, Nat.le_refl, reduceIte, reduceCtorEq]; refine η _ ?_; clear η κ
        repeat' first | refine c_reg' rfl fun K hK => ?_ | ((first | refine r_opN fun κ η => ?_ | refine d_opN (by kernel_rfl) fun κ η => ?_); simp only [go_sem, Nat.reduceLT, Nat.reduceEqDiff, Nat.reduceAdd, Nat.reduceMul, Nat.reduceLeDiff, Nat.le_refl, reduceIte, reduceCtorEq, g1, g5, hla]; (repeat refine ⟨by omega, ?_⟩); refine η _ ?_; clear η κ) | (refine r_nil (hK _ ?_); clear hK K) | refine q_seq ?_ | (refine d_nil (hK _ ?_); clear hK K) | refine q_blk ?_ | refine q_lpN ?_
        refine ⟨g.ands.length - (k + 1), by omega, k + 1, rfl, by omega, _, _, _, _, nf_of rfl ⟨rfl, rfl, rfl, rfl, rfl, rfl, trivial⟩ trivial, ?_, rfl, g2, g1, ?_⟩
        · rw [hsu]
          exact congrArg (fun z => (⟨q + 1, .row 3 1 z⟩ : O)) hmap.symm
        · rw [hsu]
          exact .inr ⟨_, rfl, by rw [ha]; rfl⟩
      · rw [if_neg (by rw [hq2]; exact Bool.false_ne_true)] at hsu
        repeat' first | refine c_reg' rfl fun K hK => ?_ | (refine r_opN fun κ η => ?_; simp only [go_sem, Nat.reduceLT, Nat.reduceEqDiff, Nat.reduceAdd, Nat.reduceMul, Nat.reduceLeDiff, Nat.le_refl, reduceIte, reduceCtorEq]; (repeat refine ⟨by omega, ?_⟩); refine η _ ?_; clear η κ) | (refine r_nil (hK _ ?_); clear hK K) | refine q_seq ?_ | refine q_blk ?_ | refine c_skip ?_ | refine q_lpN ?_
        refine ⟨g.ands.length - (k + 1), by omega, k + 1, rfl, by omega, _, _, _, _, nf_of rfl ⟨rfl, rfl, rfl, rfl, rfl, rfl, trivial⟩ trivial, ?_, g5, g2, g1, ?_⟩
        · rw [hsu]
          exact congrArg (fun z => (⟨q + 1, .row 3 1 z⟩ : O)) hmap.symm
        · rw [hsu]
          exact .inl ⟨ha, rfl⟩
    · have hma : (s.1 ++ [(v1, v2)]).map (fun x => [T.i .i64 x.1, T.i .i64 x.2]) = (s.1.map fun x => [T.i .i64 x.1, T.i .i64 x.2]) ++ [[.i .i64 v1, .i .i64 v2]] := by rw [List.map_append]; rfl
      repeat' first | refine c_seq ?_ | refine c_block ?_ | refine c_draw' rfl (by kernel_rfl) fun K hK => ?_ | (refine d_opN (by kernel_rfl) fun κ η => ?_; simp only [go_sem, Nat.reduceLT, Nat.reduceEqDiff, Nat.reduceAdd, Nat.reduceMul, Nat.reduceLeDiff, Nat.le_refl, reduceIte, reduceCtorEq, g1, g5, g25, g70, hla]; refine η _ ?_; clear η κ) | refine q_seq ?_ | refine c_skip ?_
      refine d_opN (by kernel_rfl) fun κ η => ?_; simp only [go_sem, Nat.reduceLT, Nat.reduceEqDiff, Nat.reduceAdd, Nat.reduceMul, Nat.reduceLeDiff, Nat.le_refl, reduceIte, reduceCtorEq, G.t, iL, pL]; refine ⟨_, hfi, ?_⟩; simp only [go_sem, Nat.reduceLT, Nat.reduceEqDiff, Nat.reduceAdd, Nat.reduceMul, Nat.reduceLeDiff, Nat.le_refl, reduceIte, reduceCtorEq, G.t, iL, pL]; refine η _ ?_; clear η κ
      repeat' first | refine c_seq ?_ | refine c_reg' rfl fun K hK => ?_ | ((first | refine r_opN fun κ η => ?_ | refine d_opN (by kernel_rfl) fun κ η => ?_); simp only [go_sem, Nat.reduceLT, Nat.reduceEqDiff, Nat.reduceAdd, Nat.reduceMul, Nat.reduceLeDiff, Nat.le_refl, reduceIte, reduceCtorEq, g1, g5, g25, hl2, hy, g70, hla]; (repeat refine ⟨by omega, ?_⟩); refine η _ ?_; clear η κ) | refine q_seq ?_ | (refine d_nil (hK _ ?_); clear hK K)
      refine r_opN fun κ η => ?_; simp only [go_sem, Nat.reduceLT, Nat.reduceEqDiff, Nat.reduceAdd, Nat.reduceMul, Nat.reduceLeDiff, Nat.le_refl, reduceIte, reduceCtorEq, G.t, iL, pL]; refine ⟨_, hfi, ?_⟩; simp only [go_sem, Nat.reduceLT, Nat.reduceEqDiff, Nat.reduceAdd, Nat.reduceMul, Nat.reduceLeDiff, Nat.le_refl, reduceIte, reduceCtorEq, G.t, iL, pL]; refine η _ ?_; clear η κ
      repeat' first | (refine r_opN fun κ η => ?_; simp only [go_sem, Nat.reduceLT, Nat.reduceEqDiff, Nat.reduceAdd, Nat.reduceMul, Nat.reduceLeDiff, Nat.le_refl, reduceIte, reduceCtorEq, g1, g5, g25, hl2, hy, g70, hla]; (repeat refine ⟨by omega, ?_⟩); refine η _ ?_; clear η κ) | (refine r_nil (hK _ ?_); clear hK K) | refine q_seq ?_
      refine c_cond _ rfl (fun hq2 => ?_) (fun hq2 => ?_)
      · rw [if_pos hq2] at hsu
        repeat' first | refine c_draw' rfl (by kernel_rfl) fun K hK => ?_ | (refine d_opN (by kernel_rfl) fun κ η => ?_; simp only [go_sem, Nat.reduceLT, Nat.reduceEqDiff, Nat.reduceAdd, Nat.reduceMul, Nat.reduceLeDiff, Nat.le_refl, reduceIte, reduceCtorEq, g1, g5, hx]; (repeat refine ⟨by omega, ?_⟩); refine η _ ?_; clear η κ)
        refine d_opN (by kernel_rfl) fun κ η => ?_; simp only [go_sem, Nat.reduceLT, Nat.reduceEqDiff, Nat.reduceAdd, Nat.reduceMul, Nat.reduceLeDiff, Nat.le_refl, reduceIte, reduceCtorEq]; refine ⟨_, b1, ?_⟩; simp only [go_sem, Nat.reduceLT, Nat.reduceEqDiff, Nat.reduceAdd, Nat.reduceMul, Nat.reduceLeDiff, Nat.le_refl, reduceIte, reduceCtorEq]; refine η _ ?_; clear η κ
        repeat' (refine d_opN (by kernel_rfl) fun κ η => ?_; simp only [go_sem, Nat.reduceLT, Nat.reduceEqDiff, Nat.reduceAdd, Nat.reduceMul, Nat.reduceLeDiff, Nat.le_refl, reduceIte, reduceCtorEq, g1, g5, hx]; (repeat refine ⟨by omega, ?_⟩); refine η _ ?_; clear η κ)
        refine d_opN (by kernel_rfl) fun κ η => ?_; simp only [go_sem, Nat.reduceLT, Nat.reduceEqDiff, Nat.reduceAdd, Nat.reduceMul, Nat.reduceLeDiff, Nat.le_refl, reduceIte, reduceCtorEq]; refine ⟨_, b2, ?_⟩; simp only [go_sem, Nat.reduceLT, Nat.reduceEqDiff, Nat.reduceAdd, Nat.reduceMul, Nat.reduceLeDiff, Nat.le_refl, reduceIte, reduceCtorEq]; refine η _ ?_; clear η κ
        repeat' first | refine c_reg' rfl fun K hK => ?_ | ((first | refine r_opN fun κ η => ?_ | refine d_opN (by kernel_rfl) fun κ η => ?_); simp only [go_sem, Nat.reduceLT, Nat.reduceEqDiff, Nat.reduceAdd, Nat.reduceMul, Nat.reduceLeDiff, Nat.le_refl, reduceIte, reduceCtorEq, g1, g5, hla, g70, hla]; (repeat refine ⟨by omega, ?_⟩); refine η _ ?_; clear η κ) | (refine r_nil (hK _ ?_); clear hK K) | refine q_seq ?_ | (refine d_nil (hK _ ?_); clear hK K) | refine q_blk ?_ | refine q_lpN ?_
        refine ⟨g.ands.length - (k + 1), by omega, k + 1, rfl, by omega, _, _, _, _, nf_of rfl ⟨rfl, rfl, rfl, rfl, rfl, rfl, trivial⟩ trivial, ?_, rfl, g2, g1, ?_⟩
        · rw [hsu]
          exact congrArg (fun z => (⟨q + 1, .row 3 1 z⟩ : O)) hmap.symm
        · rw [hsu]
          exact .inr ⟨_, rfl, by rw [hma]; rfl⟩
      · rw [if_neg (by rw [hq2]; exact Bool.false_ne_true)] at hsu
        repeat' first | refine c_reg' rfl fun K hK => ?_ | (refine r_opN fun κ η => ?_; simp only [go_sem, Nat.reduceLT, Nat.reduceEqDiff, Nat.reduceAdd, Nat.reduceMul, Nat.reduceLeDiff, Nat.le_refl, reduceIte, reduceCtorEq]; (repeat refine ⟨by omega, ?_⟩); refine η _ ?_; clear η κ) | (refine r_nil (hK _ ?_); clear hK K) | refine q_seq ?_ | refine q_blk ?_ | refine c_skip ?_ | refine q_lpN ?_
        refine ⟨g.ands.length - (k + 1), by omega, k + 1, rfl, by omega, _, _, _, _, nf_of rfl ⟨rfl, rfl, rfl, rfl, rfl, rfl, trivial⟩ trivial, ?_, g5, g2, g1, ?_⟩
        · rw [hsu]
          exact congrArg (fun z => (⟨q + 1, .row 3 1 z⟩ : O)) hmap.symm
        · rw [hsu]
          exact .inr ⟨_, rfl, g70⟩
  · simp only [decide_eq_false_iff_not] at hq
    obtain rfl : k = g.ands.length := by omega
    have hz : ∀ z ∈ (rclS g M g.ands.length).2, 0 ≤ z ∧ z ≤ 1000000 := fun z hz => by have := r3 z hz; omega
    have b1 := becomes_ct Hy (rclS g M g.ands.length).2 g.next (by omega) (by rw [r1]; exact ln) hz
    have b2 := becomes_ct Hy (rclS g M g.ands.length).2 g.outs (by omega) (by rw [r1]; exact lo) hz
    generalize rclS g M g.ands.length = s at *
    simp only [iL] at b1 b2
    rcases hxa with ⟨ha, rfl⟩ | ⟨ga, rfl, g70⟩
    · repeat' first | refine c_seq ?_ | refine c_reg' rfl fun K hK => ?_ | (refine r_opN fun κ η => ?_; simp only [go_sem, Nat.reduceLT, Nat.reduceEqDiff, Nat.reduceAdd, Nat.reduceMul, Nat.reduceLeDiff, Nat.le_refl, reduceIte, reduceCtorEq, g1, g25]; (repeat refine ⟨by omega, ?_⟩); refine η _ ?_; clear η κ) | refine q_seq ?_ | refine c_exit ?_ | refine q_seqE ?_ | refine q_blkHit ?_ | refine q_lpE ?_
      refine r_opN fun κ η => ?_; simp only [go_sem, Nat.reduceLT, Nat.reduceEqDiff, Nat.reduceAdd, Nat.reduceMul, Nat.reduceLeDiff, Nat.le_refl, reduceIte, reduceCtorEq, g25]; refine ⟨_, b1, ?_⟩; simp only [go_sem, Nat.reduceLT, Nat.reduceEqDiff, Nat.reduceAdd, Nat.reduceMul, Nat.reduceLeDiff, Nat.le_refl, reduceIte, reduceCtorEq, g25]; refine η _ ?_; clear η κ
      repeat' first | refine c_seq ?_ | refine c_reg' rfl fun K hK => ?_ | (refine r_opN fun κ η => ?_; simp only [go_sem, Nat.reduceLT, Nat.reduceEqDiff, Nat.reduceAdd, Nat.reduceMul, Nat.reduceLeDiff, Nat.le_refl, reduceIte, reduceCtorEq, g1, g5, g2, g25]; (repeat refine ⟨by omega, ?_⟩); refine η _ ?_; clear η κ) | (refine r_nil (hK _ ?_); clear hK K) | refine q_seq ?_
      refine r_opN fun κ η => ?_; simp only [go_sem, Nat.reduceLT, Nat.reduceEqDiff, Nat.reduceAdd, Nat.reduceMul, Nat.reduceLeDiff, Nat.le_refl, reduceIte, reduceCtorEq, g25]; refine ⟨_, b2, ?_⟩; simp only [go_sem, Nat.reduceLT, Nat.reduceEqDiff, Nat.reduceAdd, Nat.reduceMul, Nat.reduceLeDiff, Nat.le_refl, reduceIte, reduceCtorEq, g25]; refine η _ ?_; clear η κ
      repeat' first | refine c_seq ?_ | refine c_reg' rfl fun K hK => ?_ | (refine r_opN fun κ η => ?_; simp only [go_sem, Nat.reduceLT, Nat.reduceEqDiff, Nat.reduceAdd, Nat.reduceMul, Nat.reduceLeDiff, Nat.le_refl, reduceIte, reduceCtorEq, g1, g5, g2, g25, G.t, iL, pL, ha, List.map_nil]; (repeat refine ⟨by omega, ?_⟩); refine η _ ?_; clear η κ) | (refine r_nil (hK _ ?_); clear hK K) | refine q_seq ?_ | refine c_ret ?_ | (refine q_ret ?_; refine q_rc ?_; simp only [go_sem, Nat.reduceLT, Nat.reduceEqDiff, Nat.reduceAdd, Nat.reduceMul, Nat.reduceLeDiff, Nat.le_refl, reduceIte, reduceCtorEq, g1, g5, g2, g25, G.t, iL, pL, ha, List.map_nil])
    · repeat' first | refine c_seq ?_ | refine c_reg' rfl fun K hK => ?_ | (refine r_opN fun κ η => ?_; simp only [go_sem, Nat.reduceLT, Nat.reduceEqDiff, Nat.reduceAdd, Nat.reduceMul, Nat.reduceLeDiff, Nat.le_refl, reduceIte, reduceCtorEq, g1, g25]; (repeat refine ⟨by omega, ?_⟩); refine η _ ?_; clear η κ) | refine q_seq ?_ | refine c_exit ?_ | refine q_seqE ?_ | refine q_blkHit ?_ | refine q_lpE ?_
      refine r_opN fun κ η => ?_; simp only [go_sem, Nat.reduceLT, Nat.reduceEqDiff, Nat.reduceAdd, Nat.reduceMul, Nat.reduceLeDiff, Nat.le_refl, reduceIte, reduceCtorEq, g25]; refine ⟨_, b1, ?_⟩; simp only [go_sem, Nat.reduceLT, Nat.reduceEqDiff, Nat.reduceAdd, Nat.reduceMul, Nat.reduceLeDiff, Nat.le_refl, reduceIte, reduceCtorEq, g25]; refine η _ ?_; clear η κ
      repeat' first | refine c_seq ?_ | refine c_reg' rfl fun K hK => ?_ | (refine r_opN fun κ η => ?_; simp only [go_sem, Nat.reduceLT, Nat.reduceEqDiff, Nat.reduceAdd, Nat.reduceMul, Nat.reduceLeDiff, Nat.le_refl, reduceIte, reduceCtorEq, g1, g5, g2, g25]; (repeat refine ⟨by omega, ?_⟩); refine η _ ?_; clear η κ) | (refine r_nil (hK _ ?_); clear hK K) | refine q_seq ?_
      refine r_opN fun κ η => ?_; simp only [go_sem, Nat.reduceLT, Nat.reduceEqDiff, Nat.reduceAdd, Nat.reduceMul, Nat.reduceLeDiff, Nat.le_refl, reduceIte, reduceCtorEq, g25]; refine ⟨_, b2, ?_⟩; simp only [go_sem, Nat.reduceLT, Nat.reduceEqDiff, Nat.reduceAdd, Nat.reduceMul, Nat.reduceLeDiff, Nat.le_refl, reduceIte, reduceCtorEq, g25]; refine η _ ?_; clear η κ
      repeat' first | refine c_seq ?_ | refine c_reg' rfl fun K hK => ?_ | (refine r_opN fun κ η => ?_; simp only [go_sem, Nat.reduceLT, Nat.reduceEqDiff, Nat.reduceAdd, Nat.reduceMul, Nat.reduceLeDiff, Nat.le_refl, reduceIte, reduceCtorEq, g1, g5, g2, g25, g70, G.t, iL, pL]; (repeat refine ⟨by omega, ?_⟩); refine η _ ?_; clear η κ) | (refine r_nil (hK _ ?_); clear hK K) | refine q_seq ?_ | refine c_ret ?_ | (refine q_ret ?_; refine q_rc ?_; simp only [go_sem, Nat.reduceLT, Nat.reduceEqDiff, Nat.reduceAdd, Nat.reduceMul, Nat.reduceLeDiff, Nat.le_refl, reduceIte, reduceCtorEq, g1, g5, g2, g25, g70, G.t, iL, pL])
end Go.Proofs.Ytpbfkpdfodmcaaa
namespace Go.Proofs.Ytpbfkpdfodmcaaa
open Go.RowKit
set_option maxRecDepth 100000
set_option linter.unusedSimpArgs false
variable (Hy : World → Prop)
attribute [local irreducible] runM runD cwp seqQ blkQ lpQ retQ asQ bdQ
def rnormG (g : G) : G := rcloseG (bldG g fun _ => true)
set_option maxHeartbeats 4000000 in
theorem rnormal_ct (g : G) (h : g.Small) : Ct Try.prog Hy 17 [g.t] (if checkG g ≠ 0 then [g00_.t, .i .i64 (checkG g)] else [(rnormG g).t, .i .i64 0]) := by
  have hck := rcheck_ct Hy g h
  obtain ⟨res, hres⟩ : ∃ res, res = if checkG g ≠ 0 then [g00_.t, T.i .i64 (checkG g)] else [(rnormG g).t, .i .i64 0] := ⟨_, rfl⟩
  rw [← hres]
  refine ct_of (cls := _root_.id) tt_ok follows_ Try.func17 rfl (by decide) (Nat.le_of_ble_eq_true rfl) ?_
  rw [show Try.f17.ntmps = 76 from rfl, s0_nf]
  simp only [List.zipIdx_cons, List.zipIdx_nil, List.map_cons, List.map_nil, Nat.reduceAdd, G.t, iL, pL]
  repeat' first | refine c_seq ?_ | refine c_reg' rfl fun K hK => ?_ | (refine r_opN fun κ η => ?_; simp only [go_sem, Nat.reduceLT, Nat.reduceEqDiff, Nat.reduceAdd, Nat.reduceMul, Nat.reduceLeDiff, Nat.le_refl, reduceIte, reduceCtorEq]; (repeat refine ⟨by omega, ?_⟩); refine η _ ?_; clear η κ) | (refine r_nil (hK _ ?_); clear hK K) | refine q_seq ?_
  refine r_opN fun κ η => ?_; simp only [go_sem, Nat.reduceLT, Nat.reduceEqDiff, Nat.reduceAdd, Nat.reduceMul, Nat.reduceLeDiff, Nat.le_refl, reduceIte, reduceCtorEq, G.t, iL, pL]; refine ⟨_, hck, ?_⟩; simp only [go_sem, Nat.reduceLT, Nat.reduceEqDiff, Nat.reduceAdd, Nat.reduceMul, Nat.reduceLeDiff, Nat.le_refl, reduceIte, reduceCtorEq, G.t, iL, pL]; refine η _ ?_; clear η κ
  repeat' first | refine c_seq ?_ | refine c_reg' rfl fun K hK => ?_ | (refine r_opN fun κ η => ?_; simp only [go_sem, Nat.reduceLT, Nat.reduceEqDiff, Nat.reduceAdd, Nat.reduceMul, Nat.reduceLeDiff, Nat.le_refl, reduceIte, reduceCtorEq]; refine η _ ?_; clear η κ) | (refine r_nil (hK _ ?_); clear hK K) | refine q_seq ?_
  refine c_cond _ rfl (fun hq => ?_) (fun hq => ?_)
  · simp only [Bool.not_eq_true', decide_eq_false_iff_not] at hq
    rw [if_pos hq] at hres
    repeat' first | refine c_seq ?_ | refine c_reg' rfl fun K hK => ?_ | (refine r_opN fun κ η => ?_; simp only [go_sem, Nat.reduceLT, Nat.reduceEqDiff, Nat.reduceAdd, Nat.reduceMul, Nat.reduceLeDiff, Nat.le_refl, reduceIte, reduceCtorEq, hres, g00_, G.t, iL, pL]; refine η _ ?_; clear η κ) | (refine r_nil (hK _ ?_); clear hK K) | refine q_seq ?_ | refine c_ret ?_ | refine q_seqR ?_ | (refine q_ret ?_; refine q_rc ?_; simp only [go_sem, Nat.reduceLT, Nat.reduceEqDiff, Nat.reduceAdd, Nat.reduceMul, Nat.reduceLeDiff, Nat.le_refl, reduceIte, reduceCtorEq, hres, g00_, G.t, iL, pL])
  simp only [Bool.not_eq_false', decide_eq_true_eq] at hq
  obtain ⟨⟨l1, l2, l3, l4⟩, hok⟩ := checkG_ok hq
  have hlen := hok.len
  have e1 : g.first = 1 + g.ins + g.next.length := rfl
  have e2 : g.top = g.ins + g.next.length + g.ands.length := rfl
  rw [if_neg (not_not_intro hq)] at hres
  have hfi := rfirst_ct Hy g (by omega)
  rw [← e1] at hfi
  obtain ⟨keep, hkeep⟩ : ∃ keep : Nat → Bool, keep = fun _ : Nat => true := ⟨_, rfl⟩
  have hkt : ∀ i, keep i = true := fun i => by rw [hkeep]
  have hgo : rnormG g = rcloseG (bldG g keep) := by rw [hkeep]; rfl
  clear hkeep
  obtain ⟨n1, n2, n3⟩ := bldG_ok keep hok l1
  have hcl := rclosed_ct Hy (bldG g keep) n1 ⟨l1, l2, by omega, by
    show (((g.outs.map _).length : Nat) : Int) ≤ 4000
    rw [List.length_map]
    exact l4⟩
  rw [← hgo] at hcl
  have ln := lits_of (keep := keep) hok l1 l3 hok.n
  have lo := lits_of (keep := keep) hok l1 l3 hok.o
  obtain ⟨n, hn⟩ : ∃ n : Nat, (n : Int) = g.first := ⟨g.first.toNat, by omega⟩
  repeat' first | refine c_seq ?_ | refine c_block ?_ | refine c_reg' rfl fun K hK => ?_ | (refine r_opN fun κ η => ?_; simp only [go_sem, Nat.reduceLT, Nat.reduceEqDiff, Nat.reduceAdd, Nat.reduceMul, Nat.reduceLeDiff, Nat.le_refl, reduceIte, reduceCtorEq]; refine η _ ?_; clear η κ) | (refine r_nil (hK _ ?_); clear hK K) | refine q_seq ?_ | refine c_skip ?_
  refine c_loop (fun m s' => ∃ i : Nat, m = n - i ∧ i ≤ n ∧ ∃ F G0 x, s' = nf 76 F G0 [(1, .ptr 1 1 0), (2, .ptr 2 1 0), (5, x), (6, .nilS), (7, .t (.i .i64 i))] [(2, ⟨1, .cells 25 [.t (.i .i64 0), .nilS, .nilS, .nilS, .nilS]⟩), (1, ⟨1, .cells 25 g.cells⟩)] ∧ ((i = 0 ∧ x = .nilS) ∨ ∃ q, x = .row 26 q ∧ G0 26 = ⟨q, .row 3 1 ((to0 i).map fun x => [.i .i64 x])⟩)) n ?_ ?_
  · exact ⟨0, by omega, by omega, _, _, _, nf_of rfl ⟨rfl, rfl, rfl, rfl, rfl, trivial⟩ ⟨rfl, rfl, trivial⟩, .inl ⟨rfl, rfl⟩⟩
  rintro m s' ⟨i, rfl, hi, F, G0, x, rfl, hx⟩
  simp only [iL, G.cells, pL]
  repeat' first | refine c_seq ?_ | refine c_reg' rfl fun K hK => ?_ | (refine r_opN fun κ η => ?_; simp only [go_sem, Nat.reduceLT, Nat.reduceEqDiff, Nat.reduceAdd, Nat.reduceMul, Nat.reduceLeDiff, Nat.le_refl, reduceIte, reduceCtorEq]; (repeat refine ⟨by omega, ?_⟩); refine η _ ?_; clear η κ)
  refine r_opN fun κ η => ?_; simp only [go_sem, Nat.reduceLT, Nat.reduceEqDiff, Nat.reduceAdd, Nat.reduceMul, Nat.reduceLeDiff, Nat.le_refl, reduceIte, reduceCtorEq, G.t, iL, pL]; refine ⟨_, hfi, ?_⟩; simp only [go_sem, Nat.reduceLT, Nat.reduceEqDiff, Nat.reduceAdd, Nat.reduceMul, Nat.reduceLeDiff, Nat.le_refl, reduceIte, reduceCtorEq, G.t, iL, pL]; refine η _ ?_; clear η κ
  repeat' first | (refine r_opN fun κ η => ?_; simp only [go_sem, Nat.reduceLT, Nat.reduceEqDiff, Nat.reduceAdd, Nat.reduceMul, Nat.reduceLeDiff, Nat.le_refl, reduceIte, reduceCtorEq]; refine η _ ?_; clear η κ) | (refine r_nil (hK _ ?_); clear hK K) | refine q_seq ?_
  refine c_cond _ rfl (fun hq => ?_) (fun hq => ?_)
  · simp only [decide_eq_true_eq] at hq
    rcases hx with ⟨rfl, rfl⟩ | ⟨q, rfl, hr⟩
    · repeat' first | refine c_seq ?_ | refine c_block ?_ | refine c_reg' rfl fun K hK => ?_ | (refine r_opN fun κ η => ?_; simp only [go_sem, Nat.reduceLT, Nat.reduceEqDiff, Nat.reduceAdd, Nat.reduceMul, Nat.reduceLeDiff, Nat.le_refl, reduceIte, reduceCtorEq]; (repeat refine ⟨by omega, ?_⟩); refine η _ ?_; clear η κ) | (refine r_nil (hK _ ?_); clear hK K) | refine q_seq ?_ | refine q_blk ?_ | refine c_skip ?_ | refine q_lpN ?_
      exact ⟨n - (0 + 1), by omega, 0 + 1, rfl, by omega, _, _, _, nf_of rfl ⟨rfl, rfl, rfl, rfl, rfl, trivial⟩ ⟨rfl, rfl, trivial⟩, .inr ⟨_, rfl, rfl⟩⟩
    · have htl : ((to0 i).map fun x => [T.i .i64 x]).length = i := by rw [List.length_map, to0_len]
      have hsu : ((to0 (i + 1)).map fun x => [T.i .i64 x]) = ((to0 i).map fun x => [T.i .i64 x]) ++ [[.i .i64 (2 * (i : Int))]] := by rw [to0_succ, List.map_append]; rfl
      generalize ((to0 i).map fun x => [T.i .i64 x]) = rw0 at hr htl hsu
      repeat' first | refine c_seq ?_ | refine c_block ?_ | refine c_reg' rfl fun K hK => ?_ | (refine r_opN fun κ η => ?_; simp only [go_sem, Nat.reduceLT, Nat.reduceEqDiff, Nat.reduceAdd, Nat.reduceMul, Nat.reduceLeDiff, Nat.le_refl, reduceIte, reduceCtorEq, hr]; (repeat refine ⟨by omega, ?_⟩); refine η _ ?_; clear η κ) | (refine r_nil (hK _ ?_); clear hK K) | refine q_seq ?_ | refine q_blk ?_ | refine c_skip ?_ | refine q_lpN ?_
      exact ⟨n - (i + 1), by omega, i + 1, rfl, by omega, _, _, _, nf_of rfl ⟨rfl, rfl, rfl, rfl, rfl, trivial⟩ ⟨rfl, rfl, trivial⟩, .inr ⟨_, rfl, by rw [hsu]; rfl⟩⟩
  simp only [decide_eq_false_iff_not] at hq
  obtain rfl : i = n := by omega
  rcases hx with ⟨h0, rfl⟩ | ⟨q, rfl, hr⟩
  · omega
  rw [show i = g.first.toNat by omega] at hr
  clear hn hi hq
  repeat' first | refine c_seq ?_ | refine c_block ?_ | refine c_reg' rfl fun K hK => ?_ | (refine r_opN fun κ η => ?_; simp only [go_sem, Nat.reduceLT, Nat.reduceEqDiff, Nat.reduceAdd, Nat.reduceMul, Nat.reduceLeDiff, Nat.le_refl, reduceIte, reduceCtorEq]; refine η _ ?_; clear η κ) | (refine r_nil (hK _ ?_); clear hK K) | refine q_seq ?_ | refine c_exit ?_ | refine q_seqE ?_ | refine q_blkHit ?_ | refine q_lpE ?_
  refine c_loop (fun m s' => ∃ k : Nat, m = g.ands.length - k ∧ k ≤ g.ands.length ∧ ∃ F G0 q xa, s' = nf 76 F G0 [(1, .ptr 1 1 0), (2, .ptr 2 1 0), (5, .row 26 q), (6, xa), (8, .t (.i .i64 k))] [] ∧ G0 26 = ⟨q, .row 3 1 ((bldS g.first g.ands keep k).2.map fun x => [.i .i64 x])⟩ ∧ G0 2 = ⟨1, .cells 25 [.t (.i .i64 0), .nilS, .nilS, .nilS, .nilS]⟩ ∧ G0 1 = ⟨1, .cells 25 g.cells⟩ ∧ (((bldS g.first g.ands keep k).1 = [] ∧ xa = .nilS) ∨ xa = .t (pL (bldS g.first g.ands keep k).1))) g.ands.length ?_ ?_
  · exact ⟨0, by omega, by omega, _, _, _, _, nf_of rfl ⟨rfl, rfl, rfl, rfl, rfl, trivial⟩ trivial, hr, rfl, rfl, .inl ⟨rfl, rfl⟩⟩
  clear hr q F G0
  rintro m s' ⟨k, rfl, hk, F, G0, q, xa, rfl, g26, g2, g1, hxa⟩
  obtain ⟨r1, r2, r3, _⟩ := bldS_ok (keep := keep) (by omega) (hok.aok l1) k (by omega)
  simp only [G.cells, iL, pL] at g1
  repeat' first | refine c_seq ?_ | refine c_reg' rfl fun K hK => ?_ | (refine r_opN fun κ η => ?_; simp only [go_sem, Nat.reduceLT, Nat.reduceEqDiff, Nat.reduceAdd, Nat.reduceMul, Nat.reduceLeDiff, Nat.le_refl, reduceIte, reduceCtorEq, g1]; (repeat refine ⟨by omega, ?_⟩); refine η _ ?_; clear η κ) | (refine r_nil (hK _ ?_); clear hK K) | refine q_seq ?_
  refine c_cond _ rfl (fun hq => ?_) (fun hq => ?_)
  · simp only [decide_eq_true_eq] at hq
    obtain ⟨x, hx⟩ : ∃ x, g.ands[k]? = some x := ⟨_, List.getElem?_eq_getElem (by omega)⟩
    obtain ⟨⟨x1, x2⟩, x3, x4⟩ := hok.aok l1 k x hx
    have hsu : bldS g.first g.ands keep (k + 1) = ((andG g.first (bldS g.first g.ands keep k).1 (litB (bldS g.first g.ands keep k).2 x.1) (litB (bldS g.first g.ands keep k).2 x.2)).1,
      (bldS g.first g.ands keep k).2 ++ [(andG g.first (bldS g.first g.ands keep k).1 (litB (bldS g.first g.ands keep k).2 x.1) (litB (bldS g.first g.ands keep k).2 x.2)).2]) := by
      conv => lhs; unfold bldS
      rw [List.getD_eq_getElem?_getD, hx, Option.getD_some, if_pos (hkt k)]
    clear hgo n1 n2 n3 ln lo
    generalize bldS g.first g.ands keep k = s at *
    have c1 := litB_bd (x := x.1) ⟨x1, by omega⟩ r3
    have c2 := litB_bd (x := x.2) ⟨x3, by omega⟩ r3
    have b4 : ∀ y ∈ s.2, 0 ≤ y ∧ y ≤ 1000000 := fun y hy => by have := r3 y hy; omega
    have b1 := become_ct Hy s.2 x.1 ⟨x1, by omega⟩ (by omega) b4
    have b2 := become_ct Hy s.2 x.2 ⟨x3, by omega⟩ (by omega) b4
    have b3 := rand_ct Hy s.1 g.first (litB s.2 x.1) (litB s.2 x.2) (by omega) (by omega) (by omega) (by omega)
    generalize litB s.2 x.1 = v1 at *
    generalize litB s.2 x.2 = v2 at *
    generalize andG g.first s.1 v1 v2 = r at *
    have hl2 : (s.2.map fun x => [T.i .i64 x]).length = g.first.toNat + k := by rw [List.length_map, r1]
    have hmap : (s.2 ++ [r.2]).map (fun x => [T.i .i64 x]) = (s.2.map fun x => [T.i .i64 x]) ++ [[.i .i64 r.2]] := by rw [List.map_append]; rfl
    simp only [iL] at b1 b2
    generalize (s.2.map fun x => [T.i .i64 x]) = tr at *
    rcases hxa with ⟨ha, rfl⟩ | rfl
    · rw [ha] at b3
      simp only [pL, List.map_nil] at b3
      repeat' first | refine c_seq ?_ | refine c_block ?_ | refine c_draw' rfl (by kernel_rfl) fun K hK => ?_ | (refine d_opN (by kernel_rfl) fun κ η => ?_; simp only [go_sem, Nat.reduceLT, Nat.reduceEqDiff, Nat.reduceAdd, Nat.reduceMul, Nat.reduceLeDiff, Nat.le_refl, reduceIte, reduceCtorEq, g1, g26]; (repeat refine ⟨by omega, ?_⟩); refine η _ ?_; clear η κ) | refine q_seq ?_ | refine c_skip ?_
      refine d_opN (by kernel_rfl) fun κ η => ?_; simp only [go_sem, Nat.reduceLT, Nat.reduceEqDiff, Nat.reduceAdd, Nat.reduceMul, Nat.reduceLeDiff, Nat.le_refl, reduceIte, reduceCtorEq, G.t, iL, pL]; refine ⟨_, hfi, ?_⟩; simp only [go_sem, Nat.reduceLT, Nat.reduceEqDiff, Nat.reduceAdd, Nat.reduceMul, Nat.reduceLeDiff, Nat.le_refl, reduceIte, reduceCtorEq, G.t, iL, pL]; refine η _ ?_; clear η κ
      repeat' (refine d_opN (by kernel_rfl) fun κ η => ?_; simp only [go_sem, Nat.reduceLT, Nat.reduceEqDiff, Nat.reduceAdd, Nat.reduceMul, Nat.reduceLeDiff, Nat.le_refl, reduceIte, reduceCtorEq, g1, g26, hx]; (repeat refine ⟨by omega, ?_⟩); refine η _ ?_; clear η κ)
      refine d_opN (by kernel_rfl) fun κ η => ?_; simp only [go_sem, Nat.reduceLT, Nat.reduceEqDiff, Nat.reduceAdd, Nat.reduceMul, Nat.reduceLeDiff, Nat.le_refl, reduceIte, reduceCtorEq, g26]; refine ⟨_, b1, ?_⟩; simp only [go_sem, Nat.reduceLT, Nat.reduceEqDiff, Nat.reduceAdd, Nat.reduceMul, Nat.reduceLeDiff, Nat.le_refl, reduceIte, reduceCtorEq, g26]; refine η _ ?_; clear η κ
      repeat' (refine d_opN (by kernel_rfl) fun κ η => ?_; simp only [go_sem, Nat.reduceLT, Nat.reduceEqDiff, Nat.reduceAdd, Nat.reduceMul, Nat.reduceLeDiff, Nat.le_refl, reduceIte, reduceCtorEq, g1, g26, hx]; (repeat refine ⟨by omega, ?_⟩); refine η _ ?_; clear η κ)
      refine d_opN (by kernel_rfl) fun κ η => ?_; simp only [go_sem, Nat.reduceLT, Nat.reduceEqDiff, Nat.reduceAdd, Nat.reduceMul, Nat.reduceLeDiff, Nat.le_refl, reduceIte, reduceCtorEq, g26]; refine ⟨_, b2, ?_⟩; simp only [go_sem, Nat.reduceLT, Nat.reduceEqDiff, Nat.reduceAdd, Nat.reduceMul, Nat.reduceLeDiff, Nat.le_refl, reduceIte, reduceCtorEq, g26]; refine η _ ?_; clear η κ
      repeat' (refine d_opN (by kernel_rfl) fun κ η => ?_; simp only [go_sem, Nat.reduceLT, Nat.reduceEqDiff, Nat.reduceAdd, Nat.reduceMul, Nat.reduceLeDiff, Nat.le_refl, reduceIte, reduceCtorEq, g1, g26, hx]; (repeat refine ⟨by omega, ?_⟩); refine η _ ?_; clear η κ)
      refine d_opN (by kernel_rfl) fun κ η => ?_; simp only [go_sem, Nat.reduceLT, Nat.reduceEqDiff, Nat.reduceAdd, Nat.reduceMul, Nat.reduceLeDiff, Nat.le_refl, reduceIte, reduceCtorEq]; refine ⟨_, b3, ?_⟩; simp only [go_sem, Nat.reduceLT, Nat.reduceEqDiff, Nat.reduceAdd, Nat.reduceMul, Nat.reduceLeDiff, Nat.le_refl, reduceIte, reduceCtorEq]; refine η _ ?_; clear η κ
      repeat' first | refine c_seq ?_ | refine c_reg' rfl fun K hK => ?_ | ((first | refine r_opN fun κ η => ?_ | refine d_opN (by kernel_rfl) fun κ η => ?_); simp only [go_sem, Nat.reduceLT, Nat.reduceEqDiff, Nat.reduceAdd, Nat.reduceMul, Nat.reduceLeDiff, Nat.le_refl, reduceIte, reduceCtorEq, g1, g26, hl2]; (repeat refine ⟨by omega, ?_⟩); refine η _ ?_; clear η κ) | (refine r_nil (hK _ ?_); clear hK K) | refine q_seq ?_ | (refine d_nil (hK _ ?_); clear hK K) | refine q_blk ?_ | refine q_lpN ?_
      refine ⟨g.ands.length - (k + 1), by omega, k + 1, rfl, by omega, _, _, _, _, nf_of rfl ⟨rfl, rfl, rfl, rfl, rfl, trivial⟩ trivial, ?_, g2, g1, ?_⟩
      · rw [hsu]
        exact congrArg (fun z => (⟨q + 1, .row 3 1 z⟩ : O)) hmap.symm
      · rw [hsu]
        exact .inr rfl
    · simp only [pL] at b3
      repeat' first | refine c_seq ?_ | refine c_block ?_ | refine c_draw' rfl (by kernel_rfl) fun K hK => ?_ | (refine d_opN (by kernel_rfl) fun κ η => ?_; simp only [go_sem, Nat.reduceLT, Nat.reduceEqDiff, Nat.reduceAdd, Nat.reduceMul, Nat.reduceLeDiff, Nat.le_refl, reduceIte, reduceCtorEq, g1, g26, pL]; (repeat refine ⟨by omega, ?_⟩); refine η _ ?_; clear η κ) | refine q_seq ?_ | refine c_skip ?_
      refine d_opN (by kernel_rfl) fun κ η => ?_; simp only [go_sem, Nat.reduceLT, Nat.reduceEqDiff, Nat.reduceAdd, Nat.reduceMul, Nat.reduceLeDiff, Nat.le_refl, reduceIte, reduceCtorEq, G.t, iL, pL]; refine ⟨_, hfi, ?_⟩; simp only [go_sem, Nat.reduceLT, Nat.reduceEqDiff, Nat.reduceAdd, Nat.reduceMul, Nat.reduceLeDiff, Nat.le_refl, reduceIte, reduceCtorEq, G.t, iL, pL]; refine η _ ?_; clear η κ
      repeat' (refine d_opN (by kernel_rfl) fun κ η => ?_; simp only [go_sem, Nat.reduceLT, Nat.reduceEqDiff, Nat.reduceAdd, Nat.reduceMul, Nat.reduceLeDiff, Nat.le_refl, reduceIte, reduceCtorEq, g1, g26, hx]; (repeat refine ⟨by omega, ?_⟩); refine η _ ?_; clear η κ)
      refine d_opN (by kernel_rfl) fun κ η => ?_; simp only [go_sem, Nat.reduceLT, Nat.reduceEqDiff, Nat.reduceAdd, Nat.reduceMul, Nat.reduceLeDiff, Nat.le_refl, reduceIte, reduceCtorEq, g26]; refine ⟨_, b1, ?_⟩; simp only [go_sem, Nat.reduceLT, Nat.reduceEqDiff, Nat.reduceAdd, Nat.reduceMul, Nat.reduceLeDiff, Nat.le_refl, reduceIte, reduceCtorEq, g26]; refine η _ ?_; clear η κ
      repeat' (refine d_opN (by kernel_rfl) fun κ η => ?_; simp only [go_sem, Nat.reduceLT, Nat.reduceEqDiff, Nat.reduceAdd, Nat.reduceMul, Nat.reduceLeDiff, Nat.le_refl, reduceIte, reduceCtorEq, g1, g26, hx]; (repeat refine ⟨by omega, ?_⟩); refine η _ ?_; clear η κ)
      refine d_opN (by kernel_rfl) fun κ η => ?_; simp only [go_sem, Nat.reduceLT, Nat.reduceEqDiff, Nat.reduceAdd, Nat.reduceMul, Nat.reduceLeDiff, Nat.le_refl, reduceIte, reduceCtorEq, g26]; refine ⟨_, b2, ?_⟩; simp only [go_sem, Nat.reduceLT, Nat.reduceEqDiff, Nat.reduceAdd, Nat.reduceMul, Nat.reduceLeDiff, Nat.le_refl, reduceIte, reduceCtorEq, g26]; refine η _ ?_; clear η κ
      repeat' (refine d_opN (by kernel_rfl) fun κ η => ?_; simp only [go_sem, Nat.reduceLT, Nat.reduceEqDiff, Nat.reduceAdd, Nat.reduceMul, Nat.reduceLeDiff, Nat.le_refl, reduceIte, reduceCtorEq, g1, g26, hx]; (repeat refine ⟨by omega, ?_⟩); refine η _ ?_; clear η κ)
      refine d_opN (by kernel_rfl) fun κ η => ?_; simp only [go_sem, Nat.reduceLT, Nat.reduceEqDiff, Nat.reduceAdd, Nat.reduceMul, Nat.reduceLeDiff, Nat.le_refl, reduceIte, reduceCtorEq, pL]; refine ⟨_, b3, ?_⟩; simp only [go_sem, Nat.reduceLT, Nat.reduceEqDiff, Nat.reduceAdd, Nat.reduceMul, Nat.reduceLeDiff, Nat.le_refl, reduceIte, reduceCtorEq, pL]; refine η _ ?_; clear η κ
      repeat' first | refine c_seq ?_ | refine c_reg' rfl fun K hK => ?_ | ((first | refine r_opN fun κ η => ?_ | refine d_opN (by kernel_rfl) fun κ η => ?_); simp only [go_sem, Nat.reduceLT, Nat.reduceEqDiff, Nat.reduceAdd, Nat.reduceMul, Nat.reduceLeDiff, Nat.le_refl, reduceIte, reduceCtorEq, g1, g26, hl2]; (repeat refine ⟨by omega, ?_⟩); refine η _ ?_; clear η κ) | (refine r_nil (hK _ ?_); clear hK K) | refine q_seq ?_ | (refine d_nil (hK _ ?_); clear hK K) | refine q_blk ?_ | refine q_lpN ?_
      refine ⟨g.ands.length - (k + 1), by omega, k + 1, rfl, by omega, _, _, _, _, nf_of rfl ⟨rfl, rfl, rfl, rfl, rfl, trivial⟩ trivial, ?_, g2, g1, ?_⟩
      · rw [hsu]
        exact congrArg (fun z => (⟨q + 1, .row 3 1 z⟩ : O)) hmap.symm
      · rw [hsu]
        exact .inr rfl
  · simp only [decide_eq_false_iff_not] at hq
    obtain rfl : k = g.ands.length := by omega
    have hz : ∀ z ∈ (bldS g.first g.ands keep g.ands.length).2, 0 ≤ z ∧ z ≤ 1000000 := fun z hz => by have := r3 z hz; omega
    have b1 := becomes_ct Hy (bldS g.first g.ands keep g.ands.length).2 g.next (by omega) ln hz
    have b2 := becomes_ct Hy (bldS g.first g.ands keep g.ands.length).2 g.outs (by omega) lo hz
    unfold bldG at hcl
    clear hgo n1 n2 n3
    generalize bldS g.first g.ands keep g.ands.length = s at *
    simp only [iL] at b1 b2
    simp only [G.t, iL, pL] at hcl
    rcases hxa with ⟨ha, rfl⟩ | rfl
    · rw [ha] at hcl
      simp only [List.map_nil] at hcl
      repeat' first | refine c_seq ?_ | refine c_draw' rfl (by kernel_rfl) fun K hK => ?_ | (refine d_opN (by kernel_rfl) fun κ η => ?_; simp only [go_sem, Nat.reduceLT, Nat.reduceEqDiff, Nat.reduceAdd, Nat.reduceMul, Nat.reduceLeDiff, Nat.le_refl, reduceIte, reduceCtorEq, g1, g26]; (repeat refine ⟨by omega, ?_⟩); refine η _ ?_; clear η κ) | refine q_seq ?_ | refine c_exit ?_ | refine q_seqE ?_ | refine q_blkHit ?_ | refine q_lpE ?_
      refine d_opN (by kernel_rfl) fun κ η => ?_; simp only [go_sem, Nat.reduceLT, Nat.reduceEqDiff, Nat.reduceAdd, Nat.reduceMul, Nat.reduceLeDiff, Nat.le_refl, reduceIte, reduceCtorEq, g26]; refine ⟨_, b1, ?_⟩; simp only [go_sem, Nat.reduceLT, Nat.reduceEqDiff, Nat.reduceAdd, Nat.reduceMul, Nat.reduceLeDiff, Nat.le_refl, reduceIte, reduceCtorEq, g26]; refine η _ ?_; clear η κ
      repeat' (refine d_opN (by kernel_rfl) fun κ η => ?_; simp only [go_sem, Nat.reduceLT, Nat.reduceEqDiff, Nat.reduceAdd, Nat.reduceMul, Nat.reduceLeDiff, Nat.le_refl, reduceIte, reduceCtorEq, g1, g2, g26]; (repeat refine ⟨by omega, ?_⟩); refine η _ ?_; clear η κ)
      refine d_opN (by kernel_rfl) fun κ η => ?_; simp only [go_sem, Nat.reduceLT, Nat.reduceEqDiff, Nat.reduceAdd, Nat.reduceMul, Nat.reduceLeDiff, Nat.le_refl, reduceIte, reduceCtorEq, g26]; refine ⟨_, b2, ?_⟩; simp only [go_sem, Nat.reduceLT, Nat.reduceEqDiff, Nat.reduceAdd, Nat.reduceMul, Nat.reduceLeDiff, Nat.le_refl, reduceIte, reduceCtorEq, g26]; refine η _ ?_; clear η κ
      repeat' (refine d_opN (by kernel_rfl) fun κ η => ?_; simp only [go_sem, Nat.reduceLT, Nat.reduceEqDiff, Nat.reduceAdd, Nat.reduceMul, Nat.reduceLeDiff, Nat.le_refl, reduceIte, reduceCtorEq, g1, g2, g26]; (repeat refine ⟨by omega, ?_⟩); refine η _ ?_; clear η κ)
      refine d_opN (by kernel_rfl) fun κ η => ?_; simp only [go_sem, Nat.reduceLT, Nat.reduceEqDiff, Nat.reduceAdd, Nat.reduceMul, Nat.reduceLeDiff, Nat.le_refl, reduceIte, reduceCtorEq]; refine ⟨_, hcl, ?_⟩; simp only [go_sem, Nat.reduceLT, Nat.reduceEqDiff, Nat.reduceAdd, Nat.reduceMul, Nat.reduceLeDiff, Nat.le_refl, reduceIte, reduceCtorEq]; refine η _ ?_; clear η κ
      repeat' first | (refine d_opN (by kernel_rfl) fun κ η => ?_; simp only [go_sem, Nat.reduceLT, Nat.reduceEqDiff, Nat.reduceAdd, Nat.reduceMul, Nat.reduceLeDiff, Nat.le_refl, reduceIte, reduceCtorEq, hres, g2, G.t, iL, pL]; refine η _ ?_; clear η κ) | refine q_seq ?_ | (refine d_nil (hK _ ?_); clear hK K) | refine c_ret ?_ | (refine q_ret ?_; refine q_rc ?_; simp only [go_sem, Nat.reduceLT, Nat.reduceEqDiff, Nat.reduceAdd, Nat.reduceMul, Nat.reduceLeDiff, Nat.le_refl, reduceIte, reduceCtorEq, hres, g2, G.t, iL, pL])
    · repeat' first | refine c_seq ?_ | refine c_draw' rfl (by kernel_rfl) fun K hK => ?_ | (refine d_opN (by kernel_rfl) fun κ η => ?_; simp only [go_sem, Nat.reduceLT, Nat.reduceEqDiff, Nat.reduceAdd, Nat.reduceMul, Nat.reduceLeDiff, Nat.le_refl, reduceIte, reduceCtorEq, g1, g26, pL]; (repeat refine ⟨by omega, ?_⟩); refine η _ ?_; clear η κ) | refine q_seq ?_ | refine c_exit ?_ | refine q_seqE ?_ | refine q_blkHit ?_ | refine q_lpE ?_
      refine d_opN (by kernel_rfl) fun κ η => ?_; simp only [go_sem, Nat.reduceLT, Nat.reduceEqDiff, Nat.reduceAdd, Nat.reduceMul, Nat.reduceLeDiff, Nat.le_refl, reduceIte, reduceCtorEq, g26]; refine ⟨_, b1, ?_⟩; simp only [go_sem, Nat.reduceLT, Nat.reduceEqDiff, Nat.reduceAdd, Nat.reduceMul, Nat.reduceLeDiff, Nat.le_refl, reduceIte, reduceCtorEq, g26]; refine η _ ?_; clear η κ
      repeat' (refine d_opN (by kernel_rfl) fun κ η => ?_; simp only [go_sem, Nat.reduceLT, Nat.reduceEqDiff, Nat.reduceAdd, Nat.reduceMul, Nat.reduceLeDiff, Nat.le_refl, reduceIte, reduceCtorEq, g1, g2, g26, pL]; (repeat refine ⟨by omega, ?_⟩); refine η _ ?_; clear η κ)
      refine d_opN (by kernel_rfl) fun κ η => ?_; simp only [go_sem, Nat.reduceLT, Nat.reduceEqDiff, Nat.reduceAdd, Nat.reduceMul, Nat.reduceLeDiff, Nat.le_refl, reduceIte, reduceCtorEq, g26]; refine ⟨_, b2, ?_⟩; simp only [go_sem, Nat.reduceLT, Nat.reduceEqDiff, Nat.reduceAdd, Nat.reduceMul, Nat.reduceLeDiff, Nat.le_refl, reduceIte, reduceCtorEq, g26]; refine η _ ?_; clear η κ
      repeat' (refine d_opN (by kernel_rfl) fun κ η => ?_; simp only [go_sem, Nat.reduceLT, Nat.reduceEqDiff, Nat.reduceAdd, Nat.reduceMul, Nat.reduceLeDiff, Nat.le_refl, reduceIte, reduceCtorEq, g1, g2, g26, pL]; (repeat refine ⟨by omega, ?_⟩); refine η _ ?_; clear η κ)
      refine d_opN (by kernel_rfl) fun κ η => ?_; simp only [go_sem, Nat.reduceLT, Nat.reduceEqDiff, Nat.reduceAdd, Nat.reduceMul, Nat.reduceLeDiff, Nat.le_refl, reduceIte, reduceCtorEq, pL]; refine ⟨_, hcl, ?_⟩; simp only [go_sem, Nat.reduceLT, Nat.reduceEqDiff, Nat.reduceAdd, Nat.reduceMul, Nat.reduceLeDiff, Nat.le_refl, reduceIte, reduceCtorEq, pL]; refine η _ ?_; clear η κ
      repeat' first | (refine d_opN (by kernel_rfl) fun κ η => ?_; simp only [go_sem, Nat.reduceLT, Nat.reduceEqDiff, Nat.reduceAdd, Nat.reduceMul, Nat.reduceLeDiff, Nat.le_refl, reduceIte, reduceCtorEq, hres, g2, G.t, iL, pL]; refine η _ ?_; clear η κ) | refine q_seq ?_ | (refine d_nil (hK _ ?_); clear hK K) | refine c_ret ?_ | (refine q_ret ?_; refine q_rc ?_; simp only [go_sem, Nat.reduceLT, Nat.reduceEqDiff, Nat.reduceAdd, Nat.reduceMul, Nat.reduceLeDiff, Nat.le_refl, reduceIte, reduceCtorEq, hres, g2, G.t, iL, pL])
end Go.Proofs.Ytpbfkpdfodmcaaa
