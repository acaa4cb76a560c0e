import Derived.Test.YtfflfmpkjcomgaaDoorK8
namespace Go.Proofs.YtfflfmpkjcomgaaDoor
open Go.RowKit
set_option maxRecDepth 100000
set_option linter.unusedSimpArgs false
variable (Hy : World → Prop)
attribute [local irreducible] runM runD cwp seqQ blkQ lpQ retQ asQ bdQ bdY retP endR preD retD
/-- has a row a literal -/
def hadB (x : Li) (r : Row) : Bool := decide (r[x.p]? = some x.c)
theorem hadF_cm {o : Nat → O} {g : Nat} (x : Li) (ho : o 6001 = ⟨g, .cells 86 [.t (.i .i64 x.p), .t (.i .i64 x.c.toNat)]⟩) (r : Row) (hr : x.p < r.length) : Cm Tryd.prog Hy 99 [.t (.s (mk r)), .ptr 6001 g 0] o fun rs o' => rs = [.t (.b (hadB x r))] ∧ o = o' := by
  obtain ⟨c, hc⟩ : ∃ c, r[x.p]? = some c := ⟨_, List.getElem?_eq_getElem hr⟩
  have ha := at_ct Hy r x.p c hc
  have hb : hadB x r = decide ([(x.p : Int), c.toNat] = [(x.p : Int), x.c.toNat]) := by
    rw [hadB, hc, decide_eq_decide]
    simp only [Option.some.injEq, List.cons.injEq, true_and, and_true, u8_eq]
  refine cm_of (cls := _root_.id) tt_ok follows_ Tryd.func99 rfl (by decide) (Nat.le_of_ble_eq_true rfl) ?_
  rw [show Tryd.f99.ntmps = 10 from rfl, s0_nf]
  simp only [List.zipIdx_cons, List.zipIdx_nil, List.map_cons, List.map_nil, Nat.reduceAdd]
  repeat' first | refine c_seq ?_ | refine c_reg' rfl fun K E hK hE => ?_ | refine c_draw' rfl (by kernel_rfl) fun K E hK hE => ?_ | ((first | refine r_opN fun κ η => ?_ | refine d_opN (by kernel_rfl) fun κ η => ?_); simp only [go_sem, Nat.reduceLT, Nat.reduceEqDiff, Nat.reduceAdd, Nat.reduceMul, Nat.reduceLeDiff, Nat.le_refl, reduceIte, reduceCtorEq, ho]; (repeat refine ⟨by omega, ?_⟩); refine η _ ?_; clear η κ) | (refine r_nil (hK _ ?_); clear hE hK E K) | refine q_seq ?_
  refine d_opN (by kernel_rfl) fun κ η => ?_; simp only [go_sem, Nat.reduceLT, Nat.reduceEqDiff, Nat.reduceAdd, Nat.reduceMul, Nat.reduceLeDiff, Nat.le_refl, reduceIte, reduceCtorEq]; refine ⟨_, ha, ?_⟩; simp only [go_sem, Nat.reduceLT, Nat.reduceEqDiff, Nat.reduceAdd, Nat.reduceMul, Nat.reduceLeDiff, Nat.le_refl, reduceIte, reduceCtorEq]; refine η _ ?_; clear η κ
  repeat' first | (refine d_opN (by kernel_rfl) fun κ η => ?_; simp only [go_sem, Nat.reduceLT, Nat.reduceEqDiff, Nat.reduceAdd, Nat.reduceMul, Nat.reduceLeDiff, Nat.le_refl, reduceIte, reduceCtorEq, ho]; refine η _ ?_; clear η κ) | refine q_seq ?_ | (refine d_nil (hK _ ?_); clear hE hK E K) | refine c_ret ?_ | (refine q_ret ?_; refine q_r1 ?_; simp only [go_sem, Nat.reduceLT, Nat.reduceEqDiff, Nat.reduceAdd, Nat.reduceMul, Nat.reduceLeDiff, Nat.le_refl, reduceIte, reduceCtorEq, ho])
  rw [hb]
theorem hadF_cd {o : Nat → O} {g : Nat} {R : List Nat} (x : Li) (ho : o 6001 = ⟨g, .cells 86 [.t (.i .i64 x.p), .t (.i .i64 x.c.toNat)]⟩) (r : Row) (hr : x.p < r.length) (hR : 6001 ∈ R) : Cd Tryd.prog Hy 99 [.t (.s (mk r)), .ptr 6001 g 0] o R [] (.t (.b (hadB x r))) := by
  intro o2 h2
  have := hadF_cm Hy (o := o2) x (by rw [h2 _ hR]; exact ho) r hr
  exact this.mono (by rintro rs o' ⟨rfl, rfl⟩; exact ⟨rfl, rfl⟩)
theorem had_cm {o : Nat → O} (x : Li) : Cm Tryd.prog Hy 86 [.ag [.t (.i .i64 x.p), .t (.i .i64 x.c.toNat)]] o fun rs o' => ∃ g, rs = [.fn 99 [] [.ptr 6001 g 0]] ∧ o' 6001 = ⟨g, .cells 86 [.t (.i .i64 x.p), .t (.i .i64 x.c.toNat)]⟩ ∧ Fr [6001] o o' := by
  refine cm_of (cls := fun _ => 6001) tt_ok follows_ Tryd.func86 rfl (by decide) (Nat.le_of_ble_eq_true rfl) ?_
  rw [show Tryd.f86.ntmps = 4 from rfl, s0_nf]
  simp only [List.zipIdx_cons, List.zipIdx_nil, List.map_cons, List.map_nil, Nat.reduceAdd]
  repeat' first | refine c_seq ?_ | refine c_reg' rfl fun K E hK hE => ?_ | (refine r_opN fun κ η => ?_; simp only [go_sem, Nat.reduceLT, Nat.reduceEqDiff, Nat.reduceAdd, Nat.reduceMul, Nat.reduceLeDiff, Nat.le_refl, reduceIte, reduceCtorEq]; refine η _ ?_; clear η κ) | (refine r_nil (hK _ ?_); clear hE hK E K) | refine q_seq ?_ | refine c_ret ?_ | (refine q_ret ?_; refine q_r1 ?_; simp only [go_sem, Nat.reduceLT, Nat.reduceEqDiff, Nat.reduceAdd, Nat.reduceMul, Nat.reduceLeDiff, Nat.le_refl, reduceIte, reduceCtorEq])
  exact ⟨_, rfl, rfl, fr_nf (by simp)⟩
theorem which_cm {o : Nat → O} (rows : List Row) (g : Nat) (b : Bool) : Cm Tryd.prog Hy 87 [.t (rL rows), .fn 99 [] [.ptr 6001 g 0], .t (.b b)] o fun rs o' => ∃ g1 g2 g3, rs = [.fn 100 [] [.ptr 6003 g1 0, .ptr 6004 g2 0, .ptr 6005 g3 0]] ∧ o' 6003 = ⟨g1, .cells 22 [.t (rL rows)]⟩ ∧ o' 6004 = ⟨g2, .cells 81 [.fn 99 [] [.ptr 6001 g 0]]⟩ ∧ o' 6005 = ⟨g3, .cells 4 [.t (.b b)]⟩ ∧ Fr [6003, 6004, 6005] o o' := by
  refine cm_of (cls := fun d => 6000 + d) tt_ok follows_ Tryd.func87 rfl (by decide) (Nat.le_of_ble_eq_true rfl) ?_
  rw [show Tryd.f87.ntmps = 8 from rfl, s0_nf]
  simp only [List.zipIdx_cons, List.zipIdx_nil, List.map_cons, List.map_nil, Nat.reduceAdd, rL]
  repeat' first | refine c_seq ?_ | refine c_reg' rfl fun K E hK hE => ?_ | (refine r_opN fun κ η => ?_; simp only [go_sem, Nat.reduceLT, Nat.reduceEqDiff, Nat.reduceAdd, Nat.reduceMul, Nat.reduceLeDiff, Nat.le_refl, reduceIte, reduceCtorEq]; refine η _ ?_; clear η κ) | (refine r_nil (hK _ ?_); clear hE hK E K) | refine q_seq ?_ | refine c_ret ?_ | (refine q_ret ?_; refine q_r1 ?_; simp only [go_sem, Nat.reduceLT, Nat.reduceEqDiff, Nat.reduceAdd, Nat.reduceMul, Nat.reduceLeDiff, Nat.le_refl, reduceIte, reduceCtorEq])
  exact ⟨_, _, _, rfl, rfl, rfl, rfl, fr_nf (by simp)⟩
/-- what an iterator over rows yields -/
def YW (rows : List Row) (x : Li) (b : Bool) (I : Nat → (Nat → O) → Prop) : YC := fun args o Rb => ∃ k r, args = [.t (.s (mk r))] ∧ rows[k]? = some r ∧ hadB x r = b ∧ I k o ∧ ∀ o2, I (k + 1) o2 → Rb o2
set_option maxHeartbeats 2000000 in
theorem which_it {rows : List Row} {x : Li} {b : Bool} {I : Nat → (Nat → O) → Prop} {g1 g2 g3 g : Nat} (hr : rows.length ≤ 1000000) (hx : ∀ r ∈ rows, x.p < r.length)
    (hI : ∀ k o, I k o → o 6003 = ⟨g1, .cells 22 [.t (rL rows)]⟩ ∧ o 6004 = ⟨g2, .cells 81 [.fn 99 [] [.ptr 6001 g 0]]⟩ ∧ o 6005 = ⟨g3, .cells 4 [.t (.b b)]⟩ ∧ o 6001 = ⟨g, .cells 86 [.t (.i .i64 x.p), .t (.i .i64 x.c.toNat)]⟩)
    (hno : ∀ k o r, rows[k]? = some r → hadB x r ≠ b → I k o → I (k + 1) o) {o : Nat → O} (h0 : I 0 o) (lb : Nat) :
    CmY Tryd.prog Hy 100 lb (YW rows x b I) [.t (.yl lb), .ptr 6003 g1 0, .ptr 6004 g2 0, .ptr 6005 g3 0] o fun rs o' => rs = [] ∧ I rows.length o' := by
  refine cmY_of (cls := _root_.id) tt_ok follows_ Tryd.func100 rfl (by decide) (Nat.le_of_ble_eq_true rfl) ?_
  rw [show Tryd.f100.ntmps = 25 from rfl, s0_nf]
  simp only [List.zipIdx_cons, List.zipIdx_nil, List.map_cons, List.map_nil, Nat.reduceAdd]
  obtain ⟨h3, h4, h5, h1⟩ := hI _ _ h0
  simp only [rL] at h3
  repeat' first | refine c_seq ?_ | refine c_block ?_ | refine c_reg' rfl fun K E hK hE => ?_ | (refine r_opN fun κ η => ?_; simp only [go_sem, Nat.reduceLT, Nat.reduceEqDiff, Nat.reduceAdd, Nat.reduceMul, Nat.reduceLeDiff, Nat.le_refl, reduceIte, reduceCtorEq, h3]; refine η _ ?_; clear η κ) | (refine r_nil (hK _ ?_); clear hE hK E K) | refine q_seq ?_
  refine c_loop (fun m s' => ∃ k F oc, m = rows.length - k ∧ k ≤ rows.length ∧ s' = nf 25 F oc [(0, .t (.yl lb)), (1, .ptr 6003 g1 0), (2, .ptr 6004 g2 0), (3, .ptr 6005 g3 0), (7, .t (rL rows)), (8, .t (.i .i64 rows.length)), (9, .t (.i .i64 (k : Nat)))] [] ∧ I k oc) rows.length ?_ ?_
  · exact ⟨0, _, _, rfl, Nat.zero_le _, nf_of rfl ⟨rfl, rfl, rfl, rfl, rfl, rfl, rfl, trivial⟩ trivial, h0⟩
  clear h3 h4 h5 h1 h0
  rintro k s' ⟨k, F, oc, rfl, hk, rfl, hi⟩
  obtain ⟨h3, h4, h5, h1⟩ := hI _ _ hi
  simp only [rL]
  repeat' first | refine c_seq ?_ | refine c_reg' rfl fun K E hK hE => ?_ | (refine r_opN fun κ η => ?_; simp only [go_sem, Nat.reduceLT, Nat.reduceEqDiff, Nat.reduceAdd, Nat.reduceMul, Nat.reduceLeDiff, Nat.le_refl, reduceIte, reduceCtorEq]; refine η _ ?_; clear η κ) | (refine r_nil (hK _ ?_); clear hE hK E K) | refine q_seq ?_
  refine c_cond _ rfl (fun hq => ?_) (fun hq => ?_)
  · simp only [decide_eq_true_eq] at hq
    obtain ⟨r, hrk⟩ : ∃ r, rows[k]? = some r := ⟨_, List.getElem?_eq_getElem (by omega)⟩
    have hrp := hx r (List.mem_of_getElem? hrk)
    repeat' first | refine c_seq ?_ | refine c_block ?_ | refine c_reg' rfl fun K E hK hE => ?_ | refine c_draw' rfl (by kernel_rfl) fun K E hK hE => ?_ | ((first | refine r_opN fun κ η => ?_ | refine d_opN (by kernel_rfl) fun κ η => ?_); simp only [go_sem, Nat.reduceLT, Nat.reduceEqDiff, Nat.reduceAdd, Nat.reduceMul, Nat.reduceLeDiff, Nat.le_refl, reduceIte, reduceCtorEq, hrk, h4]; (repeat refine ⟨by omega, ?_⟩); refine η _ ?_; clear η κ) | (refine r_nil (hK _ ?_); clear hE hK E K) | refine q_seq ?_ | refine c_skip ?_
    refine d_call (R := [6001]) (W := []) (by kernel_rfl) fun κ η => ?_; simp only [go_sem, Nat.reduceLT, Nat.reduceEqDiff, Nat.reduceAdd, Nat.reduceMul, Nat.reduceLeDiff, Nat.le_refl, reduceIte, reduceCtorEq]; refine ⟨_, _, ?wr_, hadF_cd Hy x h1 r hrp (by simp), ?_⟩; (case wr_ => rfl); (try simp only [go_sem, Nat.reduceLT, Nat.reduceEqDiff, Nat.reduceAdd, Nat.reduceMul, Nat.reduceLeDiff, Nat.le_refl, reduceIte, reduceCtorEq]); refine η _ ?_; clear η κ
    repeat' ((first | refine d_opN (by kernel_rfl) fun κ η => ?_ | refine d_opG (by kernel_rfl) rfl fun κ η => ?_); simp only [go_sem, Nat.reduceLT, Nat.reduceEqDiff, Nat.reduceAdd, Nat.reduceMul, Nat.reduceLeDiff, Nat.le_refl, reduceIte, reduceCtorEq, h5]; refine η _ ?_; clear η κ)
    by_cases hb : hadB x r = b
    · subst hb
      repeat' (refine d_opG (by kernel_rfl) rfl fun κ η => ?_; simp only [go_sem, Nat.reduceLT, Nat.reduceEqDiff, Nat.reduceAdd, Nat.reduceMul, Nat.reduceLeDiff, Nat.le_refl, reduceIte, reduceCtorEq, h5]; refine η _ ?_; clear η κ)
      refine d_yield hE (by kernel_rfl) fun κ η => ?_; simp only [go_sem, Nat.reduceLT, Nat.reduceEqDiff, Nat.reduceAdd, Nat.reduceMul, Nat.reduceLeDiff, Nat.le_refl, reduceIte, reduceCtorEq]
      refine ⟨fun o2 => I (k + 1) o2, ⟨k, r, rfl, hrk, rfl, hi, fun o2 h => h⟩, ?_⟩
      rintro o2 hi2
      refine η _ ?_
      clear η κ
      repeat' first | ((first | refine d_opN (by kernel_rfl) fun κ η => ?_ | refine d_opG (by kernel_rfl) rfl fun κ η => ?_); simp only [go_sem, Nat.reduceLT, Nat.reduceEqDiff, Nat.reduceAdd, Nat.reduceMul, Nat.reduceLeDiff, Nat.le_refl, reduceIte, reduceCtorEq]; refine η _ ?_; clear η κ) | refine q_seq ?_ | (refine d_nil (hK _ ?_); clear hE hK E K)
      refine c_cond _ rfl (fun hq => (by cases hq)) (fun hq => ?_)
      repeat' first | refine c_reg' rfl fun K E hK hE => ?_ | (refine r_opN fun κ η => ?_; simp only [go_sem, Nat.reduceLT, Nat.reduceEqDiff, Nat.reduceAdd, Nat.reduceMul, Nat.reduceLeDiff, Nat.le_refl, reduceIte, reduceCtorEq]; (repeat refine ⟨by omega, ?_⟩); refine η _ ?_; clear η κ) | (refine r_nil (hK _ ?_); clear hE hK E K) | refine q_seq ?_ | refine q_blk ?_ | refine c_skip ?_ | refine q_lpN ?_
      exact ⟨rows.length - (k + 1), by omega, k + 1, _, _, rfl, by omega, nf_of rfl ⟨rfl, rfl, rfl, rfl, rfl, rfl, rfl, trivial⟩ trivial, hi2⟩
    · have hbf : (hadB x r == b) = false := by simpa using hb
      repeat' first | ((first | refine d_opN (by kernel_rfl) fun κ η => ?_ | refine d_opG (by kernel_rfl) rfl fun κ η => ?_); simp only [go_sem, Nat.reduceLT, Nat.reduceEqDiff, Nat.reduceAdd, Nat.reduceMul, Nat.reduceLeDiff, Nat.le_refl, reduceIte, reduceCtorEq, h5, hbf]; refine η _ ?_; clear η κ) | refine q_seq ?_ | (refine d_nil (hK _ ?_); clear hE hK E K)
      refine c_cond _ rfl (fun hq => (by cases hq)) (fun hq => ?_)
      repeat' first | refine c_reg' rfl fun K E hK hE => ?_ | (refine r_opN fun κ η => ?_; simp only [go_sem, Nat.reduceLT, Nat.reduceEqDiff, Nat.reduceAdd, Nat.reduceMul, Nat.reduceLeDiff, Nat.le_refl, reduceIte, reduceCtorEq]; (repeat refine ⟨by omega, ?_⟩); refine η _ ?_; clear η κ) | (refine r_nil (hK _ ?_); clear hE hK E K) | refine q_seq ?_ | refine q_blk ?_ | refine c_skip ?_ | refine q_lpN ?_
      exact ⟨rows.length - (k + 1), by omega, k + 1, _, _, rfl, by omega, nf_of rfl ⟨rfl, rfl, rfl, rfl, rfl, rfl, rfl, trivial⟩ trivial, hno k _ r hrk hb hi⟩
  · simp only [decide_eq_false_iff_not] at hq
    obtain rfl : k = rows.length := by omega
    repeat' first | refine c_exit ?_ | refine q_seqE ?_ | refine q_blkHit ?_ | refine q_lpE ?_ | (refine q_end ?_; refine q_r0 ?_; simp only [go_sem, Nat.reduceLT, Nat.reduceEqDiff, Nat.reduceAdd, Nat.reduceMul, Nat.reduceLeDiff, Nat.le_refl, reduceIte, reduceCtorEq])
    exact hi
end Go.Proofs.YtfflfmpkjcomgaaDoor
