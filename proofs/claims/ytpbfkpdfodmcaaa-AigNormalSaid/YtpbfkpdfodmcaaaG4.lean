import Derived.Test.YtpbfkpdfodmcaaaG3
import Derived.Test.YtpbfkpdfodmcaaaM1
namespace Go.Proofs.Ytpbfkpdfodmcaaa
open Go.RowKit
set_option maxRecDepth 100000
set_option linter.unusedSimpArgs false
variable (Hy : World → Prop)
attribute [local irreducible] runM runD cwp seqQ blkQ lpQ retQ
theorem iL_snoc (f : Int → Int) {l : List Int} {k : Nat} {x : Int} (hx : l[k]? = some x) : ((l.take (k + 1)).map f).map (fun x => [T.i .i64 x]) = ((l.take k).map f).map (fun x => [T.i .i64 x]) ++ [[.i .i64 (f x)]] := by
  rw [List.take_add_one, hx]
  simp
/-- all of these are literals of numbers that have come to something -/
def Lits (n : Nat) (l : List Int) : Prop := ∀ x ∈ l, 0 ≤ x ∧ x / 2 < (n : Int) ∧ x ≤ 1000000
theorem come0_cd (x : Int) {o : Nat → O} {R : List Nat} {nb : Nat} {a b c d e m : A} (h9 : o 900 = ⟨nb, .cells 86 [a, b, c, d, e, m, .nilS]⟩)
    (hR : 900 ∈ R ∧ 903 ∈ R ∧ 2010 ∈ R) : Cd Try.prog Hy 54 [.ptr 900 nb 0, .t (.i .i64 x)] o R [(2010, ⟨(o 2010).gen + 1, .none⟩), (900, ⟨nb, .cells 86 [a, b, c, d, e, m, .row 903 ((o 903).gen + 1)]⟩), (903, ⟨(o 903).gen + 1, .row 3 1 [[.i .i64 x]]⟩)] (.tup []) := by
  intro o2 ho
  rw [← ho 900 hR.1] at h9
  rw [← ho 2010 hR.2.2, ← ho 903 hR.2.1]
  clear ho
  refine Cm.settle (R := fun rs o' => rs = [] ∧ o' = fun j => lookO ([(900, ⟨nb, .cells 86 [a, b, c, d, e, m, .row 903 ((o2 903).gen + 1)]⟩), (903, ⟨(o2 903).gen + 1, .row 3 1 [[.i .i64 x]]⟩)] ++ [(2010, ⟨(o2 2010).gen + 1, .row 3 1 [[.i .i64 x]]⟩)]) j (o2 j)) ?_ (fun rs o' hr => ?_)
  · refine cm_of (cls := fun d => if d = 11 then 903 else 2000 + d) tt_ok follows_ Try.func54 rfl (by decide) (Nat.le_of_ble_eq_true rfl) ?_
    rw [show Try.f54.ntmps = 14 from rfl, s0_nf]
    simp only [List.zipIdx_cons, List.zipIdx_nil, List.map_cons, List.map_nil, Nat.reduceAdd]
    repeat' first | refine c_reg' rfl fun K hK => ?_ | (refine r_opN fun κ η => ?_; simp only [go_sem, Nat.reduceLT, Nat.reduceEqDiff, Nat.reduceAdd, Nat.reduceMul, Nat.reduceLeDiff, Nat.le_refl, reduceIte, reduceCtorEq, h9]; (repeat refine ⟨by omega, ?_⟩); refine η _ ?_; clear η κ) | (refine r_nil (hK _ ?_); clear hK K) | (refine q_end ?_; refine q_r0 ?_; simp only [go_sem, Nat.reduceLT, Nat.reduceEqDiff, Nat.reduceAdd, Nat.reduceMul, Nat.reduceLeDiff, Nat.le_refl, reduceIte, reduceCtorEq, h9])
    rfl
  · obtain ⟨rfl, rfl⟩ := hr
    exact ⟨_, Stl.drop (Nat.le_refl _), rfl, lookO_dropL⟩
/-- the first numbers have come to themselves -/
def to0 (n : Nat) : List Int := (List.range n).map fun i : Nat => 2 * (i : Int)
theorem to0_succ (n : Nat) : to0 (n + 1) = to0 n ++ [2 * (n : Int)] := by simp [to0, List.range_succ]
theorem to0_len (n : Nat) : (to0 n).length = n := by simp [to0]
structure NbI (g : G) (nb km : Nat) (o : Nat → O) (k : Nat) (oc : Nat → O) : Prop where
  b : ∃ x, oc 900 = ⟨nb, .cells 86 [.t (.i .i64 g.ins), .t (iL g.next), .t (iL g.init), .nilS, .nilS, .row 902 km, x]⟩ ∧ ((k = 0 ∧ x = .nilS) ∨ ∃ kk, 0 < k ∧ x = .row 903 kk ∧ oc 903 = ⟨kk, .row 3 1 ((to0 k).map fun x => [.i .i64 x])⟩)
  m : oc 902 = ⟨km, .map (.arr .i64 2) []⟩
  fr : ∀ i, i < 900 → oc i = o i
set_option maxHeartbeats 1000000 in
theorem newBuilder_cm (g : G) (o : Nat → O) (hM : MLaw Try.prog tt 84 77 3) (hi : 0 ≤ g.ins ∧ g.ins ≤ 4000) (hn : g.next.length ≤ 4000 ∧ g.init.length ≤ 4000) (hfa : Ct Try.prog Hy 67 [g.t] [.i .i64 g.first]) :
    Cm Try.prog Hy 53 [.ag g.cells] o fun rs o' => ∃ nb k1 km k, rs = [.ptr 900 nb 0] ∧ Bld o' nb k1 km k g.ins g.first g.next g.init [] (to0 g.first.toNat) ∧ ∀ i, i < 900 → o' i = o i := by
  obtain ⟨l1, l2⟩ := hi
  obtain ⟨l3, l4⟩ := hn
  have hf : g.first = 1 + g.ins + g.next.length := rfl
  refine Cm.nilCell (R := fun rs o' => ∃ nb km kk, rs = [.ptr 900 nb 0] ∧ o' 900 = ⟨nb, .cells 86 [.t (.i .i64 g.ins), .t (iL g.next), .t (iL g.init), .nilS, .nilS, .row 902 km, .row 903 kk]⟩ ∧ o' 903 = ⟨kk, .row 3 1 ((to0 g.first.toNat).map fun x => [.i .i64 x])⟩ ∧ o' 902 = ⟨km, .map (.arr .i64 2) []⟩ ∧ ∀ i, i < 900 → o' i = o i) ?_ (fun rs o' hr => ?_)
  · refine cm_of (cls := fun d => if d = 7 then 900 else if d = 5 then 902 else 1000 + d) tt_ok follows_ Try.func53 rfl (by decide) (Nat.le_of_ble_eq_true rfl) ?_
    rw [show Try.f53.ntmps = 39 from rfl, s0_nf]
    simp only [List.zipIdx_cons, List.zipIdx_nil, List.map_cons, List.map_nil, Nat.reduceAdd, G.cells, iL, pL]
    repeat' first | refine c_seq ?_ | refine c_reg' rfl fun K hK => ?_ | refine c_draw' rfl (by kernel_rfl) fun K hK => ?_ | ((first | refine r_opN fun κ η => ?_ | refine d_opN (by kernel_rfl) fun κ η => ?_); simp only [go_sem, Nat.reduceLT, Nat.reduceEqDiff, Nat.reduceAdd, Nat.reduceMul, Nat.reduceLeDiff, Nat.le_refl, reduceIte, reduceCtorEq]; (repeat refine ⟨by omega, ?_⟩); refine η _ ?_; clear η κ) | (refine r_nil (hK _ ?_); clear hK K) | refine q_seq ?_
    refine d_opN (by kernel_rfl) fun κ η => ?_; simp only [go_sem, Nat.reduceLT, Nat.reduceEqDiff, Nat.reduceAdd, Nat.reduceMul, Nat.reduceLeDiff, Nat.le_refl, reduceIte, reduceCtorEq, iL]; refine ⟨_, cloneI_ct Hy g.next (by omega), ?_⟩; simp only [go_sem, Nat.reduceLT, Nat.reduceEqDiff, Nat.reduceAdd, Nat.reduceMul, Nat.reduceLeDiff, Nat.le_refl, reduceIte, reduceCtorEq, iL]; refine η _ ?_; clear η κ
    repeat' (refine d_opN (by kernel_rfl) fun κ η => ?_; simp only [go_sem, Nat.reduceLT, Nat.reduceEqDiff, Nat.reduceAdd, Nat.reduceMul, Nat.reduceLeDiff, Nat.le_refl, reduceIte, reduceCtorEq]; (repeat refine ⟨by omega, ?_⟩); refine η _ ?_; clear η κ)
    refine d_opN (by kernel_rfl) fun κ η => ?_; simp only [go_sem, Nat.reduceLT, Nat.reduceEqDiff, Nat.reduceAdd, Nat.reduceMul, Nat.reduceLeDiff, Nat.le_refl, reduceIte, reduceCtorEq, iL]; refine ⟨_, cloneI_ct Hy g.init (by omega), ?_⟩; simp only [go_sem, Nat.reduceLT, Nat.reduceEqDiff, Nat.reduceAdd, Nat.reduceMul, Nat.reduceLeDiff, Nat.le_refl, reduceIte, reduceCtorEq, iL]; refine η _ ?_; clear η κ
    repeat' first | refine c_seq ?_ | refine c_reg' rfl fun K hK => ?_ | ((first | refine r_opN fun κ η => ?_ | refine d_opN (by kernel_rfl) fun κ η => ?_); simp only [go_sem, Nat.reduceLT, Nat.reduceEqDiff, Nat.reduceAdd, Nat.reduceMul, Nat.reduceLeDiff, Nat.le_refl, reduceIte, reduceCtorEq]; (repeat refine ⟨by omega, ?_⟩); refine η _ ?_; clear η κ) | refine q_seq ?_ | (refine d_nil (hK _ ?_); clear hK K)
    refine r_opN fun κ η => ?_; simp only [go_sem, Nat.reduceLT, Nat.reduceEqDiff, Nat.reduceAdd, Nat.reduceMul, Nat.reduceLeDiff, Nat.le_refl, reduceIte, reduceCtorEq, G.t, iL, pL]; refine ⟨_, hfa, ?_⟩; simp only [go_sem, Nat.reduceLT, Nat.reduceEqDiff, Nat.reduceAdd, Nat.reduceMul, Nat.reduceLeDiff, Nat.le_refl, reduceIte, reduceCtorEq, G.t, iL, pL]; refine η _ ?_; clear η κ
    repeat' first | refine c_block ?_ | (refine r_opN fun κ η => ?_; simp only [go_sem, Nat.reduceLT, Nat.reduceEqDiff, Nat.reduceAdd, Nat.reduceMul, Nat.reduceLeDiff, Nat.le_refl, reduceIte, reduceCtorEq]; refine η _ ?_; clear η κ) | (refine r_nil (hK _ ?_); clear hK K) | refine q_seq ?_
    obtain ⟨n, hn⟩ : ∃ n : Nat, (n : Int) = g.first := ⟨g.first.toNat, by omega⟩
    rw [← hn, Int.toNat_natCast]
    refine c_loop (fun m s' => ∃ i : Nat, m = n - i ∧ i ≤ n ∧ ∃ F oc, s' = nf 39 F oc [(3, .ptr 900 ((o 900).gen + 1) 0), (29, .t (.i .i64 n)), (30, .t (.i .i64 i))] [] ∧ NbI g ((o 900).gen + 1) ((o 902).gen + 1) o i oc) n ?_ ?_
    · exact ⟨0, by omega, by omega, _, _, nf_of rfl ⟨rfl, rfl, rfl, trivial⟩ trivial, ⟨_, rfl, .inl ⟨rfl, rfl⟩⟩, rfl, fun i hi => lookO_other (by simp; omega)⟩
    rintro m s' ⟨i, rfl, hi, F, oc, rfl, ⟨x, hb, hx⟩, hm, hfr⟩
    repeat' first | refine c_seq ?_ | refine c_reg' rfl fun K hK => ?_ | (refine r_opN fun κ η => ?_; simp only [go_sem, Nat.reduceLT, Nat.reduceEqDiff, Nat.reduceAdd, Nat.reduceMul, Nat.reduceLeDiff, Nat.le_refl, reduceIte, reduceCtorEq]; refine η _ ?_; clear η κ) | (refine r_nil (hK _ ?_); clear hK K) | refine q_seq ?_
    refine c_cond _ rfl (fun hq => ?_) (fun hq => ?_)
    · simp only [decide_eq_true_eq] at hq
      repeat' first | refine c_seq ?_ | refine c_block ?_ | refine c_reg' rfl fun K hK => ?_ | (refine r_opN fun κ η => ?_; simp only [go_sem, Nat.reduceLT, Nat.reduceEqDiff, Nat.reduceAdd, Nat.reduceMul, Nat.reduceLeDiff, Nat.le_refl, reduceIte, reduceCtorEq]; (repeat refine ⟨by omega, ?_⟩); refine η _ ?_; clear η κ) | (refine r_nil (hK _ ?_); clear hK K) | refine q_seq ?_ | refine c_skip ?_
      rcases hx with ⟨rfl, rfl⟩ | ⟨kk, h0, rfl, ht⟩
      · refine r_callD (R := []) (W := [2010, 900, 903]) fun κ η => ?_; simp only [go_sem, Nat.reduceLT, Nat.reduceEqDiff, Nat.reduceAdd, Nat.reduceMul, Nat.reduceLeDiff, Nat.le_refl, reduceIte, reduceCtorEq]; refine ⟨_, _, ?wr_, come0_cd Hy _ hb (by simp), ?_⟩; (case wr_ => rfl); (try simp only [go_sem, Nat.reduceLT, Nat.reduceEqDiff, Nat.reduceAdd, Nat.reduceMul, Nat.reduceLeDiff, Nat.le_refl, reduceIte, reduceCtorEq]); refine η _ ?_; clear η κ
        repeat' first | refine c_reg' rfl fun K hK => ?_ | (refine r_opN fun κ η => ?_; simp only [go_sem, Nat.reduceLT, Nat.reduceEqDiff, Nat.reduceAdd, Nat.reduceMul, Nat.reduceLeDiff, Nat.le_refl, reduceIte, reduceCtorEq]; (repeat refine ⟨by omega, ?_⟩); refine η _ ?_; clear η κ) | (refine r_nil (hK _ ?_); clear hK K) | refine q_seq ?_ | refine q_blk ?_ | refine q_lpN ?_
        refine ⟨n - (0 + 1), by omega, 0 + 1, rfl, by omega, _, _, nf_of rfl ⟨rfl, rfl, rfl, trivial⟩ trivial, ⟨_, rfl, .inr ⟨_, by omega, rfl, rfl⟩⟩, hm, fun i hi => ?_⟩
        exact (lookO_other (by simp; omega)).trans (hfr i hi)
      · refine r_callD (R := []) (W := [2010, 900, 903]) fun κ η => ?_; simp only [go_sem, Nat.reduceLT, Nat.reduceEqDiff, Nat.reduceAdd, Nat.reduceMul, Nat.reduceLeDiff, Nat.le_refl, reduceIte, reduceCtorEq]; refine ⟨_, _, ?wr_, come_cd Hy _ hb ht (by rw [to0_len]; omega) (by simp), ?_⟩; (case wr_ => rfl); (try simp only [go_sem, Nat.reduceLT, Nat.reduceEqDiff, Nat.reduceAdd, Nat.reduceMul, Nat.reduceLeDiff, Nat.le_refl, reduceIte, reduceCtorEq]); refine η _ ?_; clear η κ
        repeat' first | refine c_reg' rfl fun K hK => ?_ | (refine r_opN fun κ η => ?_; simp only [go_sem, Nat.reduceLT, Nat.reduceEqDiff, Nat.reduceAdd, Nat.reduceMul, Nat.reduceLeDiff, Nat.le_refl, reduceIte, reduceCtorEq]; (repeat refine ⟨by omega, ?_⟩); refine η _ ?_; clear η κ) | (refine r_nil (hK _ ?_); clear hK K) | refine q_seq ?_ | refine q_blk ?_ | refine q_lpN ?_
        refine ⟨n - (i + 1), by omega, i + 1, rfl, by omega, _, _, nf_of rfl ⟨rfl, rfl, rfl, trivial⟩ trivial, ⟨_, rfl, .inr ⟨_, by omega, rfl, ?_⟩⟩, hm, fun i hi => ?_⟩
        · rw [to0_succ]
          rfl
        · exact (lookO_other (by simp; omega)).trans (hfr i hi)
    · simp only [decide_eq_false_iff_not] at hq
      obtain rfl : i = n := by omega
      rcases hx with ⟨h0, rfl⟩ | ⟨kk, h0, rfl, ht⟩
      · omega
      repeat' first | refine c_seq ?_ | refine c_reg' rfl fun K hK => ?_ | (refine r_opN fun κ η => ?_; simp only [go_sem, Nat.reduceLT, Nat.reduceEqDiff, Nat.reduceAdd, Nat.reduceMul, Nat.reduceLeDiff, Nat.le_refl, reduceIte, reduceCtorEq]; refine η _ ?_; clear η κ) | (refine r_nil (hK _ ?_); clear hK K) | refine q_seq ?_ | refine c_exit ?_ | refine c_ret ?_ | refine q_seqE ?_ | refine q_blkHit ?_ | refine q_lpE ?_ | (refine q_ret ?_; refine q_r1 ?_; simp only [go_sem, Nat.reduceLT, Nat.reduceEqDiff, Nat.reduceAdd, Nat.reduceMul, Nat.reduceLeDiff, Nat.le_refl, reduceIte, reduceCtorEq])
      exact ⟨_, _, kk, rfl, hb, ht, hm, hfr⟩
  · obtain ⟨nb, km, kk, rfl, h9, h3, h2, hfr⟩ := hr
    refine ⟨900, 3, 901, (o' 901).gen + 1, 2, 77, 86, _, by rw [h9], rfl, by decide, Nat.lt_succ_self _, nb, _, km, kk, rfl, ⟨?_, rfl, ?_, ?_, rfl⟩, fun i hi => ?_⟩
    · show (if (900 : Nat) = 900 then _ else _) = _
      rw [if_pos rfl, h9]
      rfl
    · show (if (902 : Nat) = 900 then _ else if (902 : Nat) = 901 then _ else o' 902) = _
      rw [if_neg (by decide), if_neg (by decide), h2]
      rfl
    · show (if (903 : Nat) = 900 then _ else if (903 : Nat) = 901 then _ else o' 903) = _
      rw [if_neg (by decide), if_neg (by decide), h3]
    · show (if i = 900 then _ else if i = 901 then _ else o' i) = _
      rw [if_neg (by omega), if_neg (by omega), hfr i hi]
theorem map3_cd (l : List Int) {o : Nat → O} {R : List Nat} {nb k : Nat} {a b c d e m : A} {to : List Int} (h9 : o 900 = ⟨nb, .cells 86 [a, b, c, d, e, m, .row 903 k]⟩) (h3 : o 903 = ⟨k, .row 3 1 (to.map fun x => [.i .i64 x])⟩)
    (hl : l.length ≤ 10000) (hz : Lits to.length l) (ht : ∀ x ∈ to, 0 ≤ x ∧ x ≤ 1000000) (hR : 900 ∈ R ∧ 903 ∈ R ∧ 3018 ∈ R ∧ 3019 ∈ R) :
    Cd Try.prog Hy 57 [.t (iL l), .fn 56 [.ptr 900 nb 0] []] o R [(3018, ⟨(o 3018).gen + l.length, .none⟩), (3019, ⟨(o 3019).gen + max l.length 1, .row 3 1 ((l.map (litB to)).map fun x => [.i .i64 x])⟩)] (.row 3019 ((o 3019).gen + max l.length 1)) := by
  intro o2 ho
  rw [← ho 900 hR.1] at h9
  rw [← ho 903 hR.2.1] at h3
  rw [← ho 3018 hR.2.2.1, ← ho 3019 hR.2.2.2]
  clear ho
  refine Cm.near (own := [3018]) (up := [(3019, ⟨(o2 3019).gen + max l.length 1, .row 3 1 ((l.map (litB to)).map fun x => [.i .i64 x])⟩)]) (Cm.nilRow (R := fun rs o' => (l = [] ∧ rs = [.nilS] ∧ o' = o2) ∨ (rs = [.row 3019 ((o2 3019).gen + max l.length 1)] ∧ Nearly o2 [3018] l.length [(3019, ⟨(o2 3019).gen + max l.length 1, .row 3 1 ((l.map (litB to)).map fun x => [.i .i64 x])⟩)] o')) ?_ (fun rs o' hr => ?_))
  · refine cm_of (cls := fun d => 3000 + d) tt_ok follows_ Try.func57 rfl (by decide) (Nat.le_of_ble_eq_true rfl) ?_
    rw [show Try.f57.ntmps = 22 from rfl, s0_nf]
    simp only [List.zipIdx_cons, List.zipIdx_nil, List.map_cons, List.map_nil, Nat.reduceAdd, iL]
    repeat' first | refine c_seq ?_ | refine c_block ?_ | refine c_reg' rfl fun K hK => ?_ | (refine r_opN fun κ η => ?_; simp only [go_sem, Nat.reduceLT, Nat.reduceEqDiff, Nat.reduceAdd, Nat.reduceMul, Nat.reduceLeDiff, Nat.le_refl, reduceIte, reduceCtorEq]; refine η _ ?_; clear η κ) | (refine r_nil (hK _ ?_); clear hK K) | refine q_seq ?_
    refine c_loop (fun m s' => ∃ i : Nat, m = l.length - i ∧ i ≤ l.length ∧ ∃ F G0 x, s' = nf 22 F G0 [(5, x), (1, .fn 56 [.ptr 900 nb 0] []), (8, .t (iL l)), (9, .t (.i .i64 l.length)), (10, .t (.i .i64 i))] [] ∧ (∀ j, j ≠ 3018 → j ≠ 3019 → G0 j = o2 j) ∧
      (G0 3018).gen = (o2 3018).gen + i ∧ ((i = 0 ∧ x = .nilS ∧ G0 = o2) ∨ (0 < i ∧ x = .row 3019 ((o2 3019).gen + i) ∧ G0 3019 = ⟨(o2 3019).gen + i, .row 3 1 (((l.take i).map (litB to)).map fun x => [.i .i64 x])⟩))) l.length ?_ ?_
    · exact ⟨0, by omega, by omega, _, _, _, nf_of rfl ⟨rfl, rfl, rfl, rfl, rfl, trivial⟩ trivial, fun _ _ _ => rfl, rfl, .inl ⟨rfl, rfl, rfl⟩⟩
    rintro m s' ⟨i, rfl, hi, F, G0, x, rfl, hG, hG8, hx⟩
    have h9' : G0 900 = ⟨nb, .cells 86 [a, b, c, d, e, m, .row 903 k]⟩ := (hG 900 (by decide) (by decide)).trans h9
    have h3' : G0 903 = ⟨k, .row 3 1 (to.map fun x => [.i .i64 x])⟩ := (hG 903 (by decide) (by decide)).trans h3
    simp only [iL]
    repeat' first | refine c_seq ?_ | refine c_reg' rfl fun K hK => ?_ | (refine r_opN fun κ η => ?_; simp only [go_sem, Nat.reduceLT, Nat.reduceEqDiff, Nat.reduceAdd, Nat.reduceMul, Nat.reduceLeDiff, Nat.le_refl, reduceIte, reduceCtorEq]; refine η _ ?_; clear η κ) | (refine r_nil (hK _ ?_); clear hK K) | refine q_seq ?_
    refine c_cond _ rfl (fun hq => ?_) (fun hq => ?_)
    · simp only [decide_eq_true_eq] at hq
      obtain ⟨y, hy⟩ : ∃ y, l[i]? = some y := ⟨_, List.getElem?_eq_getElem (by omega)⟩
      obtain ⟨y1, y2, y3⟩ := hz y (List.mem_of_getElem? hy)
      rcases hx with ⟨rfl, rfl, rfl⟩ | ⟨h0, rfl, hr⟩
      · repeat' first | refine c_seq ?_ | refine c_block ?_ | refine c_reg' rfl fun K hK => ?_ | (refine r_opN fun κ η => ?_; simp only [go_sem, Nat.reduceLT, Nat.reduceEqDiff, Nat.reduceAdd, Nat.reduceMul, Nat.reduceLeDiff, Nat.le_refl, reduceIte, reduceCtorEq, hy]; (repeat refine ⟨by omega, ?_⟩); refine η _ ?_; clear η κ) | (refine r_nil (hK _ ?_); clear hK K) | refine q_seq ?_ | refine c_skip ?_
        refine r_callD (R := [900, 903]) (W := []) fun κ η => ?_; simp only [go_sem, Nat.reduceLT, Nat.reduceEqDiff, Nat.reduceAdd, Nat.reduceMul, Nat.reduceLeDiff, Nat.le_refl, reduceIte, reduceCtorEq]; refine ⟨_, _, ?wr_, lit_cd Hy y h9 h3 ⟨y1, y2⟩ y3 ht (by simp), ?_⟩; (case wr_ => rfl); (try simp only [go_sem, Nat.reduceLT, Nat.reduceEqDiff, Nat.reduceAdd, Nat.reduceMul, Nat.reduceLeDiff, Nat.le_refl, reduceIte, reduceCtorEq]); refine η _ ?_; clear η κ
        repeat' first | refine c_reg' rfl fun K hK => ?_ | (refine r_opN fun κ η => ?_; simp only [go_sem, Nat.reduceLT, Nat.reduceEqDiff, Nat.reduceAdd, Nat.reduceMul, Nat.reduceLeDiff, Nat.le_refl, reduceIte, reduceCtorEq]; (repeat refine ⟨by omega, ?_⟩); refine η _ ?_; clear η κ) | (refine r_nil (hK _ ?_); clear hK K) | refine q_seq ?_ | refine q_blk ?_ | refine q_lpN ?_
        refine ⟨l.length - (0 + 1), by omega, 0 + 1, rfl, by omega, _, _, _, nf_of rfl ⟨rfl, rfl, rfl, rfl, rfl, trivial⟩ trivial, fun j j1 j2 => ?_, rfl, .inr ⟨by omega, rfl, ?_⟩⟩
        · show (if j = 3019 then _ else if j = 3018 then _ else G0 j) = _
          rw [if_neg j2, if_neg j1]
        · rw [iL_snoc (litB to) hy]
          rfl
      · have hlen : (((l.take i).map (litB to)).map fun x => [T.i .i64 x]).length = i := by
          rw [List.length_map, List.length_map, List.length_take]
          omega
        have hsn := iL_snoc (litB to) hy
        generalize ((l.take i).map (litB to)).map (fun x => [T.i .i64 x]) = rws at hr hlen hsn
        repeat' first | refine c_seq ?_ | refine c_block ?_ | refine c_reg' rfl fun K hK => ?_ | (refine r_opN fun κ η => ?_; simp only [go_sem, Nat.reduceLT, Nat.reduceEqDiff, Nat.reduceAdd, Nat.reduceMul, Nat.reduceLeDiff, Nat.le_refl, reduceIte, reduceCtorEq, hy]; (repeat refine ⟨by omega, ?_⟩); refine η _ ?_; clear η κ) | (refine r_nil (hK _ ?_); clear hK K) | refine q_seq ?_ | refine c_skip ?_
        refine r_callD (R := [900, 903]) (W := []) fun κ η => ?_; simp only [go_sem, Nat.reduceLT, Nat.reduceEqDiff, Nat.reduceAdd, Nat.reduceMul, Nat.reduceLeDiff, Nat.le_refl, reduceIte, reduceCtorEq]; refine ⟨_, _, ?wr_, lit_cd Hy y h9' h3' ⟨y1, y2⟩ y3 ht (by simp), ?_⟩; (case wr_ => rfl); (try simp only [go_sem, Nat.reduceLT, Nat.reduceEqDiff, Nat.reduceAdd, Nat.reduceMul, Nat.reduceLeDiff, Nat.le_refl, reduceIte, reduceCtorEq]); refine η _ ?_; clear η κ
        repeat' first | refine c_reg' rfl fun K hK => ?_ | (refine r_opN fun κ η => ?_; simp only [go_sem, Nat.reduceLT, Nat.reduceEqDiff, Nat.reduceAdd, Nat.reduceMul, Nat.reduceLeDiff, Nat.le_refl, reduceIte, reduceCtorEq, hr]; (repeat refine ⟨by omega, ?_⟩); refine η _ ?_; clear η κ) | (refine r_nil (hK _ ?_); clear hK K) | refine q_seq ?_ | refine q_blk ?_ | refine q_lpN ?_
        refine ⟨l.length - (i + 1), by omega, i + 1, rfl, by omega, _, _, _, nf_of rfl ⟨rfl, rfl, rfl, rfl, rfl, trivial⟩ trivial, fun j j1 j2 => ?_, ?_, .inr ⟨by omega, rfl, ?_⟩⟩
        · show (if j = 3019 then _ else if j = 3018 then _ else G0 j) = _
          rw [if_neg j2, if_neg j1]
          exact hG j j1 j2
        · show (G0 3018).gen + 1 = _
          rw [hG8]
          rfl
        · rw [hsn]
          rfl
    · simp only [decide_eq_false_iff_not] at hq
      obtain rfl : i = l.length := by omega
      rcases hx with ⟨h0, rfl, rfl⟩ | ⟨h0, rfl, hr⟩
      · repeat' first | refine c_seq ?_ | refine c_reg' rfl fun K hK => ?_ | (refine r_opN fun κ η => ?_; simp only [go_sem, Nat.reduceLT, Nat.reduceEqDiff, Nat.reduceAdd, Nat.reduceMul, Nat.reduceLeDiff, Nat.le_refl, reduceIte, reduceCtorEq]; refine η _ ?_; clear η κ) | (refine r_nil (hK _ ?_); clear hK K) | refine q_seq ?_ | refine c_exit ?_ | refine c_ret ?_ | refine q_seqE ?_ | refine q_blkHit ?_ | refine q_lpE ?_ | (refine q_ret ?_; refine q_r1 ?_; simp only [go_sem, Nat.reduceLT, Nat.reduceEqDiff, Nat.reduceAdd, Nat.reduceMul, Nat.reduceLeDiff, Nat.le_refl, reduceIte, reduceCtorEq])
        exact .inl (List.length_eq_zero_iff.1 h0)
      · repeat' first | refine c_seq ?_ | refine c_reg' rfl fun K hK => ?_ | (refine r_opN fun κ η => ?_; simp only [go_sem, Nat.reduceLT, Nat.reduceEqDiff, Nat.reduceAdd, Nat.reduceMul, Nat.reduceLeDiff, Nat.le_refl, reduceIte, reduceCtorEq]; refine η _ ?_; clear η κ) | (refine r_nil (hK _ ?_); clear hK K) | refine q_seq ?_ | refine c_exit ?_ | refine c_ret ?_ | refine q_seqE ?_ | refine q_blkHit ?_ | refine q_lpE ?_ | (refine q_ret ?_; refine q_r1 ?_; simp only [go_sem, Nat.reduceLT, Nat.reduceEqDiff, Nat.reduceAdd, Nat.reduceMul, Nat.reduceLeDiff, Nat.le_refl, reduceIte, reduceCtorEq])
        have hm : max l.length 1 = l.length := by omega
        rw [hm]
        rw [List.take_length] at hr
        refine .inr ⟨rfl, fun j hj => ?_, fun j hj => ?_⟩
        · show G0 j = if j = 3019 then _ else o2 j
          simp only [List.mem_singleton] at hj
          split
          · rename_i e; rw [e]; exact hr
          · exact hG j hj (by assumption)
        · simp only [List.mem_singleton] at hj
          subst hj
          exact Nat.le_of_eq hG8
  · rcases hr with ⟨rfl, rfl, rfl⟩ | ⟨rfl, hn⟩
    · refine .inr ⟨rfl, 3019, (o' 3019).gen + 1, 3, 1, by omega, rfl, fun j hj => rfl, fun j hj => ?_⟩
      simp only [List.mem_singleton] at hj
      subst hj
      exact Nat.le_add_right _ _
    · exact .inl ⟨rfl, hn⟩
theorem map4_cd (l : List Int) {o : Nat → O} {R : List Nat} {nb k : Nat} {a b c d e m : A} {to : List Int} (h9 : o 900 = ⟨nb, .cells 86 [a, b, c, d, e, m, .row 903 k]⟩) (h3 : o 903 = ⟨k, .row 3 1 (to.map fun x => [.i .i64 x])⟩)
    (hl : l.length ≤ 10000) (hz : Lits to.length l) (ht : ∀ x ∈ to, 0 ≤ x ∧ x ≤ 1000000) (hR : 900 ∈ R ∧ 903 ∈ R ∧ 4018 ∈ R ∧ 4019 ∈ R) :
    Cd Try.prog Hy 57 [.t (iL l), .fn 56 [.ptr 900 nb 0] []] o R [(4018, ⟨(o 4018).gen + l.length, .none⟩), (4019, ⟨(o 4019).gen + max l.length 1, .row 3 1 ((l.map (litB to)).map fun x => [.i .i64 x])⟩)] (.row 4019 ((o 4019).gen + max l.length 1)) := by
  intro o2 ho
  rw [← ho 900 hR.1] at h9
  rw [← ho 903 hR.2.1] at h3
  rw [← ho 4018 hR.2.2.1, ← ho 4019 hR.2.2.2]
  clear ho
  refine Cm.near (own := [4018]) (up := [(4019, ⟨(o2 4019).gen + max l.length 1, .row 3 1 ((l.map (litB to)).map fun x => [.i .i64 x])⟩)]) (Cm.nilRow (R := fun rs o' => (l = [] ∧ rs = [.nilS] ∧ o' = o2) ∨ (rs = [.row 4019 ((o2 4019).gen + max l.length 1)] ∧ Nearly o2 [4018] l.length [(4019, ⟨(o2 4019).gen + max l.length 1, .row 3 1 ((l.map (litB to)).map fun x => [.i .i64 x])⟩)] o')) ?_ (fun rs o' hr => ?_))
  · refine cm_of (cls := fun d => 4000 + d) tt_ok follows_ Try.func57 rfl (by decide) (Nat.le_of_ble_eq_true rfl) ?_
    rw [show Try.f57.ntmps = 22 from rfl, s0_nf]
    simp only [List.zipIdx_cons, List.zipIdx_nil, List.map_cons, List.map_nil, Nat.reduceAdd, iL]
    repeat' first | refine c_seq ?_ | refine c_block ?_ | refine c_reg' rfl fun K hK => ?_ | (refine r_opN fun κ η => ?_; simp only [go_sem, Nat.reduceLT, Nat.reduceEqDiff, Nat.reduceAdd, Nat.reduceMul, Nat.reduceLeDiff, Nat.le_refl, reduceIte, reduceCtorEq]; refine η _ ?_; clear η κ) | (refine r_nil (hK _ ?_); clear hK K) | refine q_seq ?_
    refine c_loop (fun m s' => ∃ i : Nat, m = l.length - i ∧ i ≤ l.length ∧ ∃ F G0 x, s' = nf 22 F G0 [(5, x), (1, .fn 56 [.ptr 900 nb 0] []), (8, .t (iL l)), (9, .t (.i .i64 l.length)), (10, .t (.i .i64 i))] [] ∧ (∀ j, j ≠ 4018 → j ≠ 4019 → G0 j = o2 j) ∧
      (G0 4018).gen = (o2 4018).gen + i ∧ ((i = 0 ∧ x = .nilS ∧ G0 = o2) ∨ (0 < i ∧ x = .row 4019 ((o2 4019).gen + i) ∧ G0 4019 = ⟨(o2 4019).gen + i, .row 3 1 (((l.take i).map (litB to)).map fun x => [.i .i64 x])⟩))) l.length ?_ ?_
    · exact ⟨0, by omega, by omega, _, _, _, nf_of rfl ⟨rfl, rfl, rfl, rfl, rfl, trivial⟩ trivial, fun _ _ _ => rfl, rfl, .inl ⟨rfl, rfl, rfl⟩⟩
    rintro m s' ⟨i, rfl, hi, F, G0, x, rfl, hG, hG8, hx⟩
    have h9' : G0 900 = ⟨nb, .cells 86 [a, b, c, d, e, m, .row 903 k]⟩ := (hG 900 (by decide) (by decide)).trans h9
    have h3' : G0 903 = ⟨k, .row 3 1 (to.map fun x => [.i .i64 x])⟩ := (hG 903 (by decide) (by decide)).trans h3
    simp only [iL]
    repeat' first | refine c_seq ?_ | refine c_reg' rfl fun K hK => ?_ | (refine r_opN fun κ η => ?_; simp only [go_sem, Nat.reduceLT, Nat.reduceEqDiff, Nat.reduceAdd, Nat.reduceMul, Nat.reduceLeDiff, Nat.le_refl, reduceIte, reduceCtorEq]; refine η _ ?_; clear η κ) | (refine r_nil (hK _ ?_); clear hK K) | refine q_seq ?_
    refine c_cond _ rfl (fun hq => ?_) (fun hq => ?_)
    · simp only [decide_eq_true_eq] at hq
      obtain ⟨y, hy⟩ : ∃ y, l[i]? = some y := ⟨_, List.getElem?_eq_getElem (by omega)⟩
      obtain ⟨y1, y2, y3⟩ := hz y (List.mem_of_getElem? hy)
      rcases hx with ⟨rfl, rfl, rfl⟩ | ⟨h0, rfl, hr⟩
      · repeat' first | refine c_seq ?_ | refine c_block ?_ | refine c_reg' rfl fun K hK => ?_ | (refine r_opN fun κ η => ?_; simp only [go_sem, Nat.reduceLT, Nat.reduceEqDiff, Nat.reduceAdd, Nat.reduceMul, Nat.reduceLeDiff, Nat.le_refl, reduceIte, reduceCtorEq, hy]; (repeat refine ⟨by omega, ?_⟩); refine η _ ?_; clear η κ) | (refine r_nil (hK _ ?_); clear hK K) | refine q_seq ?_ | refine c_skip ?_
        refine r_callD (R := [900, 903]) (W := []) fun κ η => ?_; simp only [go_sem, Nat.reduceLT, Nat.reduceEqDiff, Nat.reduceAdd, Nat.reduceMul, Nat.reduceLeDiff, Nat.le_refl, reduceIte, reduceCtorEq]; refine ⟨_, _, ?wr_, lit_cd Hy y h9 h3 ⟨y1, y2⟩ y3 ht (by simp), ?_⟩; (case wr_ => rfl); (try simp only [go_sem, Nat.reduceLT, Nat.reduceEqDiff, Nat.reduceAdd, Nat.reduceMul, Nat.reduceLeDiff, Nat.le_refl, reduceIte, reduceCtorEq]); refine η _ ?_; clear η κ
        repeat' first | refine c_reg' rfl fun K hK => ?_ | (refine r_opN fun κ η => ?_; simp only [go_sem, Nat.reduceLT, Nat.reduceEqDiff, Nat.reduceAdd, Nat.reduceMul, Nat.reduceLeDiff, Nat.le_refl, reduceIte, reduceCtorEq]; (repeat refine ⟨by omega, ?_⟩); refine η _ ?_; clear η κ) | (refine r_nil (hK _ ?_); clear hK K) | refine q_seq ?_ | refine q_blk ?_ | refine q_lpN ?_
        refine ⟨l.length - (0 + 1), by omega, 0 + 1, rfl, by omega, _, _, _, nf_of rfl ⟨rfl, rfl, rfl, rfl, rfl, trivial⟩ trivial, fun j j1 j2 => ?_, rfl, .inr ⟨by omega, rfl, ?_⟩⟩
        · show (if j = 4019 then _ else if j = 4018 then _ else G0 j) = _
          rw [if_neg j2, if_neg j1]
        · rw [iL_snoc (litB to) hy]
          rfl
      · have hlen : (((l.take i).map (litB to)).map fun x => [T.i .i64 x]).length = i := by
          rw [List.length_map, List.length_map, List.length_take]
          omega
        have hsn := iL_snoc (litB to) hy
        generalize ((l.take i).map (litB to)).map (fun x => [T.i .i64 x]) = rws at hr hlen hsn
        repeat' first | refine c_seq ?_ | refine c_block ?_ | refine c_reg' rfl fun K hK => ?_ | (refine r_opN fun κ η => ?_; simp only [go_sem, Nat.reduceLT, Nat.reduceEqDiff, Nat.reduceAdd, Nat.reduceMul, Nat.reduceLeDiff, Nat.le_refl, reduceIte, reduceCtorEq, hy]; (repeat refine ⟨by omega, ?_⟩); refine η _ ?_; clear η κ) | (refine r_nil (hK _ ?_); clear hK K) | refine q_seq ?_ | refine c_skip ?_
        refine r_callD (R := [900, 903]) (W := []) fun κ η => ?_; simp only [go_sem, Nat.reduceLT, Nat.reduceEqDiff, Nat.reduceAdd, Nat.reduceMul, Nat.reduceLeDiff, Nat.le_refl, reduceIte, reduceCtorEq]; refine ⟨_, _, ?wr_, lit_cd Hy y h9' h3' ⟨y1, y2⟩ y3 ht (by simp), ?_⟩; (case wr_ => rfl); (try simp only [go_sem, Nat.reduceLT, Nat.reduceEqDiff, Nat.reduceAdd, Nat.reduceMul, Nat.reduceLeDiff, Nat.le_refl, reduceIte, reduceCtorEq]); refine η _ ?_; clear η κ
        repeat' first | refine c_reg' rfl fun K hK => ?_ | (refine r_opN fun κ η => ?_; simp only [go_sem, Nat.reduceLT, Nat.reduceEqDiff, Nat.reduceAdd, Nat.reduceMul, Nat.reduceLeDiff, Nat.le_refl, reduceIte, reduceCtorEq, hr]; (repeat refine ⟨by omega, ?_⟩); refine η _ ?_; clear η κ) | (refine r_nil (hK _ ?_); clear hK K) | refine q_seq ?_ | refine q_blk ?_ | refine q_lpN ?_
        refine ⟨l.length - (i + 1), by omega, i + 1, rfl, by omega, _, _, _, nf_of rfl ⟨rfl, rfl, rfl, rfl, rfl, trivial⟩ trivial, fun j j1 j2 => ?_, ?_, .inr ⟨by omega, rfl, ?_⟩⟩
        · show (if j = 4019 then _ else if j = 4018 then _ else G0 j) = _
          rw [if_neg j2, if_neg j1]
          exact hG j j1 j2
        · show (G0 4018).gen + 1 = _
          rw [hG8]
          rfl
        · rw [hsn]
          rfl
    · simp only [decide_eq_false_iff_not] at hq
      obtain rfl : i = l.length := by omega
      rcases hx with ⟨h0, rfl, rfl⟩ | ⟨h0, rfl, hr⟩
      · repeat' first | refine c_seq ?_ | refine c_reg' rfl fun K hK => ?_ | (refine r_opN fun κ η => ?_; simp only [go_sem, Nat.reduceLT, Nat.reduceEqDiff, Nat.reduceAdd, Nat.reduceMul, Nat.reduceLeDiff, Nat.le_refl, reduceIte, reduceCtorEq]; refine η _ ?_; clear η κ) | (refine r_nil (hK _ ?_); clear hK K) | refine q_seq ?_ | refine c_exit ?_ | refine c_ret ?_ | refine q_seqE ?_ | refine q_blkHit ?_ | refine q_lpE ?_ | (refine q_ret ?_; refine q_r1 ?_; simp only [go_sem, Nat.reduceLT, Nat.reduceEqDiff, Nat.reduceAdd, Nat.reduceMul, Nat.reduceLeDiff, Nat.le_refl, reduceIte, reduceCtorEq])
        exact .inl (List.length_eq_zero_iff.1 h0)
      · repeat' first | refine c_seq ?_ | refine c_reg' rfl fun K hK => ?_ | (refine r_opN fun κ η => ?_; simp only [go_sem, Nat.reduceLT, Nat.reduceEqDiff, Nat.reduceAdd, Nat.reduceMul, Nat.reduceLeDiff, Nat.le_refl, reduceIte, reduceCtorEq]; refine η _ ?_; clear η κ) | (refine r_nil (hK _ ?_); clear hK K) | refine q_seq ?_ | refine c_exit ?_ | refine c_ret ?_ | refine q_seqE ?_ | refine q_blkHit ?_ | refine q_lpE ?_ | (refine q_ret ?_; refine q_r1 ?_; simp only [go_sem, Nat.reduceLT, Nat.reduceEqDiff, Nat.reduceAdd, Nat.reduceMul, Nat.reduceLeDiff, Nat.le_refl, reduceIte, reduceCtorEq])
        have hm : max l.length 1 = l.length := by omega
        rw [hm]
        rw [List.take_length] at hr
        refine .inr ⟨rfl, fun j hj => ?_, fun j hj => ?_⟩
        · show G0 j = if j = 4019 then _ else o2 j
          simp only [List.mem_singleton] at hj
          split
          · rename_i e; rw [e]; exact hr
          · exact hG j hj (by assumption)
        · simp only [List.mem_singleton] at hj
          subst hj
          exact Nat.le_of_eq hG8
  · rcases hr with ⟨rfl, rfl, rfl⟩ | ⟨rfl, hn⟩
    · refine .inr ⟨rfl, 4019, (o' 4019).gen + 1, 3, 1, by omega, rfl, fun j hj => rfl, fun j hj => ?_⟩
      simp only [List.mem_singleton] at hj
      subst hj
      exact Nat.le_add_right _ _
    · exact .inl ⟨rfl, hn⟩
end Go.Proofs.Ytpbfkpdfodmcaaa
