import Derived.Test.YtbhoeanfnbkenaaDoorR5
import Derived.Test.YtbhoeanfnbkenaaDoorR32
namespace Go.Proofs.YtbhoeanfnbkenaaDoor
open Go.RowKit Go.WideMaps
set_option maxRecDepth 100000
set_option linter.unusedSimpArgs false
variable (Hy : World → Prop)
attribute [local irreducible] runM runD cwp seqQ blkQ lpQ retQ asQ bdQ bdY retP endR preD retD
theorem rrow6_ct (r : Row) (n : Int) (hr : r.length ≤ 140737488355328) : Ct Tryd.prog Hy 105 [.s (mk r), .i .i64 n] [.b (rowB n r)] := by
  refine ct_of (cls := _root_.id) tt_ok follows_ Tryd.func105 rfl (by decide) (Nat.le_of_ble_eq_true rfl) ?_
  rw [show Tryd.f105.ntmps = 32 from rfl, s0_nf]
  simp only [List.zipIdx_cons, List.zipIdx_nil, List.map_cons, List.map_nil, Nat.reduceAdd]
  repeat' first | refine c_seq ?_ | refine c_block ?_ | refine c_reg' rfl fun K E hK hE => ?_ | (refine r_opN fun κ η => ?_; simp only [go_sem, simprocAttr, Nat.le_refl]; refine η _ ?_; clear η κ) | (refine r_nil (hK _ ?_); clear hE hK E K) | refine q_seq ?_
  refine c_loop (fun m s' => ∃ k : Nat, m = r.length - k ∧ k ≤ r.length ∧ (∀ (j : Nat) c, j < k → r[j]? = some c → c = 48 ∨ c = 49 ∨ c = 45) ∧ ∃ F G0, s' = nf 32 F G0 [(0, .t (.s (mk r))), (1, .t (.i .i64 n)), (5, .t (.i .i64 k))] []) (r.length) ?_ ?_
  · exact ⟨0, by omega, by omega, fun j c hj => absurd hj (Nat.not_lt_zero j), _, _, nf_of rfl ⟨rfl, rfl, rfl, trivial⟩ trivial⟩
  rintro m s' ⟨k, rfl, hk, hno, F, G0, rfl⟩
  repeat' first | refine c_seq ?_ | refine c_reg' rfl fun K E hK hE => ?_ | (refine r_opN fun κ η => ?_; simp only [go_sem, simprocAttr, Nat.le_refl, mk_size]; refine η _ ?_; clear η κ) | (refine r_nil (hK _ ?_); clear hE hK E K) | refine q_seq ?_
  refine c_cond _ rfl (fun hq => ?_) (fun hq => ?_)
  · simp only [decide_eq_true_eq] at hq
    obtain ⟨c, hc⟩ : ∃ c, r[k]? = some c := ⟨_, List.getElem?_eq_getElem (by omega)⟩
    have hgo : (c = 48 ∨ c = 49 ∨ c = 45) → ∀ (j : Nat) y, j < k + 1 → r[j]? = some y → y = 48 ∨ y = 49 ∨ y = 45 := fun h j y hj hy => by
      rcases Nat.lt_or_eq_of_le (Nat.lt_succ_iff.1 hj) with h1 | rfl
      · exact hno j y h1 hy
      · rw [hc] at hy; cases hy; exact h
    by_cases c8 : c = 48
    · have h8 : ((c.toNat : Int) = 48) = True := by rw [c48]; exact eq_true c8
      repeat' first | refine c_seq ?_ | refine c_block ?_ | refine c_reg' rfl fun K E hK hE => ?_ | ((first | refine r_opN fun κ η => ?_ | refine r_opG rfl fun κ η => ?_); simp only [go_sem, simprocAttr, Nat.le_refl, mk_get, hc, Int.toNat_natCast, h8]; (repeat refine ⟨by omega, ?_⟩); refine η _ ?_; clear η κ) | (refine r_nil (hK _ ?_); clear hE hK E K) | refine q_seq ?_ | refine c_skip ?_
      refine c_cond _ rfl (fun hq => (by cases hq)) (fun hq => ?_)
      repeat' first | refine c_reg' rfl fun K E hK hE => ?_ | (refine r_opN fun κ η => ?_; simp only [go_sem, simprocAttr, Nat.le_refl]; (repeat refine ⟨by omega, ?_⟩); refine η _ ?_; clear η κ) | (refine r_nil (hK _ ?_); clear hE hK E K) | refine q_seq ?_ | refine q_blk ?_ | refine c_skip ?_ | refine q_lpN ?_
      refine ⟨r.length - (k + 1), by omega, k + 1, rfl, by omega, hgo (.inl c8), _, _, nf_of rfl ⟨rfl, rfl, rfl, trivial⟩ trivial⟩
    have h8 : ((c.toNat : Int) = 48) = False := by rw [c48]; exact eq_false c8
    by_cases c9 : c = 49
    · have h9 : ((c.toNat : Int) = 49) = True := by rw [c49]; exact eq_true c9
      repeat' first | refine c_seq ?_ | refine c_block ?_ | refine c_reg' rfl fun K E hK hE => ?_ | ((first | refine r_opN fun κ η => ?_ | refine r_opG rfl fun κ η => ?_); simp only [go_sem, simprocAttr, Nat.le_refl, mk_get, hc, Int.toNat_natCast, h8, h9]; (repeat refine ⟨by omega, ?_⟩); refine η _ ?_; clear η κ) | (refine r_nil (hK _ ?_); clear hE hK E K) | refine q_seq ?_ | refine c_skip ?_
      refine c_cond _ rfl (fun hq => (by cases hq)) (fun hq => ?_)
      repeat' first | refine c_reg' rfl fun K E hK hE => ?_ | (refine r_opN fun κ η => ?_; simp only [go_sem, simprocAttr, Nat.le_refl]; (repeat refine ⟨by omega, ?_⟩); refine η _ ?_; clear η κ) | (refine r_nil (hK _ ?_); clear hE hK E K) | refine q_seq ?_ | refine q_blk ?_ | refine c_skip ?_ | refine q_lpN ?_
      refine ⟨r.length - (k + 1), by omega, k + 1, rfl, by omega, hgo (.inr (.inl c9)), _, _, nf_of rfl ⟨rfl, rfl, rfl, trivial⟩ trivial⟩
    have h9 : ((c.toNat : Int) = 49) = False := by rw [c49]; exact eq_false c9
    by_cases c5 : c = 45
    · have h5 : ((c.toNat : Int) = 45) = True := by rw [c45]; exact eq_true c5
      repeat' first | refine c_seq ?_ | refine c_block ?_ | refine c_reg' rfl fun K E hK hE => ?_ | ((first | refine r_opN fun κ η => ?_ | refine r_opG rfl fun κ η => ?_); simp only [go_sem, simprocAttr, Nat.le_refl, mk_get, hc, Int.toNat_natCast, h8, h9, h5]; (repeat refine ⟨by omega, ?_⟩); refine η _ ?_; clear η κ) | (refine r_nil (hK _ ?_); clear hE hK E K) | refine q_seq ?_ | refine c_skip ?_
      refine c_cond _ rfl (fun hq => (by cases hq)) (fun hq => ?_)
      repeat' first | refine c_reg' rfl fun K E hK hE => ?_ | (refine r_opN fun κ η => ?_; simp only [go_sem, simprocAttr, Nat.le_refl]; (repeat refine ⟨by omega, ?_⟩); refine η _ ?_; clear η κ) | (refine r_nil (hK _ ?_); clear hE hK E K) | refine q_seq ?_ | refine q_blk ?_ | refine c_skip ?_ | refine q_lpN ?_
      refine ⟨r.length - (k + 1), by omega, k + 1, rfl, by omega, hgo (.inr (.inr c5)), _, _, nf_of rfl ⟨rfl, rfl, rfl, trivial⟩ trivial⟩
    · have h5 : ((c.toNat : Int) = 45) = False := by rw [c45]; exact eq_false c5
      have hb : rowB n r = false := by
        rw [rowB, Bool.and_eq_false_iff, List.all_eq_false]
        exact .inr ⟨c, List.mem_of_getElem? hc, by simp [c8, c9, c5]⟩
      repeat' first | refine c_seq ?_ | refine c_block ?_ | refine c_reg' rfl fun K E hK hE => ?_ | ((first | refine r_opN fun κ η => ?_ | refine r_opG rfl fun κ η => ?_); simp only [go_sem, simprocAttr, Nat.le_refl, mk_get, hc, Int.toNat_natCast, h8, h9, h5]; (repeat refine ⟨by omega, ?_⟩); refine η _ ?_; clear η κ) | (refine r_nil (hK _ ?_); clear hE hK E K) | refine q_seq ?_ | refine c_skip ?_
      refine c_cond _ rfl (fun hq => ?_) (fun hq => (by cases hq))
      repeat' first | refine c_seq ?_ | refine c_reg' rfl fun K E hK hE => ?_ | (refine r_opN fun κ η => ?_; simp only [go_sem, simprocAttr, Nat.le_refl]; refine η _ ?_; clear η κ) | (refine r_nil (hK _ ?_); clear hE hK E K) | refine q_seq ?_ | refine c_ret ?_ | refine q_seqR ?_ | refine q_blkR ?_ | refine q_lpR ?_ | (refine q_ret ?_; refine q_r1 ?_; simp only [go_sem, simprocAttr, Nat.le_refl])
      rw [hb]
  · simp only [decide_eq_false_iff_not] at hq
    have hb : rowB n r = decide ((r.length : Int) = n) := by
      rw [rowB, List.all_eq_true.2, Bool.and_true]
      intro c hc
      obtain ⟨j, hj⟩ := List.getElem?_of_mem hc
      have := (List.getElem?_eq_some_iff.1 hj).1
      rcases hno j c (by omega) hj with h | h | h <;> simp [h]
    repeat' first | refine c_seq ?_ | refine c_reg' rfl fun K E hK hE => ?_ | (refine r_opN fun κ η => ?_; simp only [go_sem, simprocAttr, Nat.le_refl, mk_size]; refine η _ ?_; clear η κ) | (refine r_nil (hK _ ?_); clear hE hK E K) | refine q_seq ?_ | refine c_exit ?_ | refine c_ret ?_ | refine q_seqE ?_ | refine q_blkHit ?_ | refine q_lpE ?_ | (refine q_ret ?_; refine q_r1 ?_; simp only [go_sem, simprocAttr, Nat.le_refl, mk_size])
    rw [hb]
theorem rR_get {l : List Row} {k : Nat} {x : Row} (h : l[k]? = some x) : (rR l)[k]? = some [.s (mk x)] := by unfold rR; rw [List.getElem?_map, h]; rfl
set_option maxHeartbeats 4000000 in
theorem rGate_ct (g : Gt) (hi : g.ins.length ≤ 1000000) (hrl : g.rows.length ≤ 140737488355328) (hz : ∀ r ∈ g.rows, r.length ≤ 140737488355328) : Ct Tryd.prog Hy 71 [.ag [.s g.name, .i .i64 g.op, .sl (sR g.ins), .sl (rR g.rows), .b g.off]] [.b (gateB g)] := by
  obtain ⟨name, op, ins, rows, off⟩ := g
  simp only at hi hrl hz
  obtain ⟨R, e⟩ : ∃ R, R = gateB ⟨name, op, ins, rows, off⟩ := ⟨_, rfl⟩
  rw [← e]
  unfold gateB at e
  simp only at e
  by_cases h10 : op = 10
  · subst h10
    rw [show opB 10 = true from rfl, show loF 10 = 0 from rfl, show hiF 10 = 8 from rfl, if_pos rfl, Bool.true_and] at e
    refine ct_of (cls := _root_.id) tt_ok follows_ Tryd.func71 rfl (by decide) (Nat.le_of_ble_eq_true rfl) ?_
    rw [show Tryd.f71.ntmps = 82 from rfl, s0_nf]
    simp only [List.zipIdx_cons, List.zipIdx_nil, List.map_cons, List.map_nil, Nat.reduceAdd]
    repeat' first | refine c_seq ?_ | refine c_block ?_ | refine c_reg' rfl fun K E hK hE => ?_ | (refine r_opN fun κ η => ?_; simp only [go_sem, simprocAttr, Nat.le_refl, Int.reduceEq]; (repeat refine ⟨by omega, ?_⟩); refine η _ ?_; clear η κ) | (refine r_nil (hK _ ?_); clear hE hK E K) | refine q_seq ?_ | refine c_cond true rfl (fun _ => ?_) (fun h => (by cases h))
    refine c_loop (fun m s' => ∃ k : Nat, m = rows.length - k ∧ k ≤ rows.length ∧ (∀ (j : Nat) y, j < k → rows[j]? = some y → rowB ins.length y = true) ∧ ∃ F G0, s' = nf 82 F G0 [(1, .ptr 1 1 0), (3, .t (.i .i64 ins.length)), (4, .t (.i .i64 k))] [(1, ⟨1, .cells 45 [.t (.s name), .t (.i .i64 10), .t (.sl (sR ins)), .t (.sl (rR rows)), .t (.b off)]⟩)]) (rows.length) ?_ ?_
    · exact ⟨0, by omega, by omega, fun j c hj => absurd hj (Nat.not_lt_zero j), _, _, nf_of rfl ⟨rfl, rfl, rfl, trivial⟩ ⟨rfl, trivial⟩⟩
    rintro m s' ⟨k, rfl, hk, hno, F, G0, rfl⟩
    by_cases c1 : (k : Int) < rows.length
    · by_cases c2 : (k : Int) ≤ 128
      · obtain ⟨r, hr⟩ : ∃ r, rows[k]? = some r := ⟨_, List.getElem?_eq_getElem (by omega)⟩
        have hrm := List.mem_of_getElem? hr
        have hr' := rR_get hr
        have hrw := rrow6_ct Hy r ins.length (hz r hrm)
        repeat' first | refine c_seq ?_ | refine c_block ?_ | refine c_reg' rfl fun K E hK hE => ?_ | ((first | refine r_opN fun κ η => ?_ | refine r_opG rfl fun κ η => ?_); simp only [go_sem, simprocAttr, Nat.le_refl, eq_true c1, eq_true c2, hr']; (repeat refine ⟨by omega, ?_⟩); refine η _ ?_; clear η κ) | (refine r_nil (hK _ ?_); clear hE hK E K) | refine q_seq ?_ | refine c_cond true rfl (fun _ => ?_) (fun h => (by cases h)) | refine c_skip ?_
        refine r_opN fun κ η => ?_; simp only [go_sem, simprocAttr, Nat.le_refl]; refine ⟨_, hrw, ?_⟩; simp only [go_sem, simprocAttr, Nat.le_refl]; refine η _ ?_; clear η κ
        cases hb : rowB ins.length r with
        | true =>
          repeat' first | refine c_reg' rfl fun K E hK hE => ?_ | (refine r_opN fun κ η => ?_; simp only [go_sem, simprocAttr, Nat.le_refl]; (repeat refine ⟨by omega, ?_⟩); refine η _ ?_; clear η κ) | (refine r_nil (hK _ ?_); clear hE hK E K) | refine q_seq ?_ | refine c_cond false rfl (fun h => (by cases h)) fun _ => ?_ | refine q_blk ?_ | refine c_skip ?_ | refine q_lpN ?_
          refine ⟨rows.length - (k + 1), by omega, k + 1, rfl, by omega, fun j y hj hy => ?_, _, _, nf_of rfl ⟨rfl, rfl, rfl, trivial⟩ ⟨rfl, trivial⟩⟩
          rcases Nat.lt_or_eq_of_le (Nat.lt_succ_iff.1 hj) with h | rfl
          · exact hno j y h hy
          · rw [hr] at hy; cases hy; exact hb
        | false =>
          have ha : rows.all (rowB ins.length) = false := List.all_eq_false.2 ⟨r, hrm, by rw [hb]; decide⟩
          rw [ha, Bool.and_false, Bool.and_false] at e
          subst e
          repeat' first | refine c_seq ?_ | refine c_reg' rfl fun K E hK hE => ?_ | (refine r_opN fun κ η => ?_; simp only [go_sem, simprocAttr, Nat.le_refl]; refine η _ ?_; clear η κ) | (refine r_nil (hK _ ?_); clear hE hK E K) | refine q_seq ?_ | refine c_cond true rfl (fun _ => ?_) (fun h => (by cases h)) | refine c_ret ?_ | refine q_seqR ?_ | refine q_blkR ?_ | refine q_lpR ?_ | (refine q_ret ?_; refine q_r1 ?_; simp only [go_sem, simprocAttr, Nat.le_refl])
      · rw [decide_eq_false (show ¬ rows.length ≤ 128 by omega), Bool.false_and, Bool.and_false] at e
        subst e
        by_cases c3 : ins.length ≤ 8
        · repeat' first | refine c_seq ?_ | refine c_reg' rfl fun K E hK hE => ?_ | ((first | refine r_opN fun κ η => ?_ | refine r_opG rfl fun κ η => ?_); simp only [go_sem, simprocAttr, Nat.le_refl, eq_true c1, eq_false c2, eq_true (show (ins.length : Int) ≤ 8 by omega), eq_false (show ¬ (rows.length : Int) ≤ 128 by omega)]; (repeat refine ⟨by omega, ?_⟩); refine η _ ?_; clear η κ) | (refine r_nil (hK _ ?_); clear hE hK E K) | refine q_seq ?_ | refine c_cond false rfl (fun h => (by cases h)) fun _ => ?_ | refine c_exit ?_ | refine c_ret ?_ | refine q_seqE ?_ | refine q_blkHit ?_ | refine q_lpE ?_ | refine q_seqR ?_ | (refine q_ret ?_; refine q_r1 ?_; simp only [go_sem, simprocAttr, Nat.le_refl, eq_true c1, eq_false c2, eq_true (show (ins.length : Int) ≤ 8 by omega), eq_false (show ¬ (rows.length : Int) ≤ 128 by omega)])
        · repeat' first | refine c_seq ?_ | refine c_reg' rfl fun K E hK hE => ?_ | ((first | refine r_opN fun κ η => ?_ | refine r_opG rfl fun κ η => ?_); simp only [go_sem, simprocAttr, Nat.le_refl, eq_true c1, eq_false c2, eq_false (show ¬ (ins.length : Int) ≤ 8 by omega)]; (repeat refine ⟨by omega, ?_⟩); refine η _ ?_; clear η κ) | (refine r_nil (hK _ ?_); clear hE hK E K) | refine q_seq ?_ | refine c_cond false rfl (fun h => (by cases h)) fun _ => ?_ | refine c_exit ?_ | refine c_ret ?_ | refine q_seqE ?_ | refine q_blkHit ?_ | refine q_lpE ?_ | refine q_seqR ?_ | (refine q_ret ?_; refine q_r1 ?_; simp only [go_sem, simprocAttr, Nat.le_refl, eq_true c1, eq_false c2, eq_false (show ¬ (ins.length : Int) ≤ 8 by omega)])
    · have ha : rows.all (rowB ins.length) = true := List.all_eq_true.2 fun r hr => by
        obtain ⟨j, hj⟩ := List.getElem?_of_mem hr
        exact hno j r (by have := (List.getElem?_eq_some_iff.1 hj).1; omega) hj
      rw [ha, Bool.and_true] at e
      by_cases c3 : ins.length ≤ 8
      · rw [decide_eq_true (show (0 : Int) ≤ ins.length ∧ (ins.length : Int) ≤ 8 by omega), Bool.true_and] at e
        by_cases c4 : rows.length ≤ 128
        · rw [decide_eq_true c4] at e
          subst e
          repeat' first | refine c_seq ?_ | refine c_reg' rfl fun K E hK hE => ?_ | ((first | refine r_opN fun κ η => ?_ | refine r_opG rfl fun κ η => ?_); simp only [go_sem, simprocAttr, Nat.le_refl, eq_false c1, eq_true (show (ins.length : Int) ≤ 8 by omega), eq_true (show (rows.length : Int) ≤ 128 by omega)]; (repeat refine ⟨by omega, ?_⟩); refine η _ ?_; clear η κ) | (refine r_nil (hK _ ?_); clear hE hK E K) | refine q_seq ?_ | refine c_cond false rfl (fun h => (by cases h)) fun _ => ?_ | refine c_exit ?_ | refine c_ret ?_ | refine q_seqE ?_ | refine q_blkHit ?_ | refine q_lpE ?_ | refine q_seqR ?_ | (refine q_ret ?_; refine q_r1 ?_; simp only [go_sem, simprocAttr, Nat.le_refl, eq_false c1, eq_true (show (ins.length : Int) ≤ 8 by omega), eq_true (show (rows.length : Int) ≤ 128 by omega)])
        · rw [decide_eq_false c4] at e
          subst e
          repeat' first | refine c_seq ?_ | refine c_reg' rfl fun K E hK hE => ?_ | ((first | refine r_opN fun κ η => ?_ | refine r_opG rfl fun κ η => ?_); simp only [go_sem, simprocAttr, Nat.le_refl, eq_false c1, eq_true (show (ins.length : Int) ≤ 8 by omega), eq_false (show ¬ (rows.length : Int) ≤ 128 by omega)]; (repeat refine ⟨by omega, ?_⟩); refine η _ ?_; clear η κ) | (refine r_nil (hK _ ?_); clear hE hK E K) | refine q_seq ?_ | refine c_cond false rfl (fun h => (by cases h)) fun _ => ?_ | refine c_exit ?_ | refine c_ret ?_ | refine q_seqE ?_ | refine q_blkHit ?_ | refine q_lpE ?_ | refine q_seqR ?_ | (refine q_ret ?_; refine q_r1 ?_; simp only [go_sem, simprocAttr, Nat.le_refl, eq_false c1, eq_true (show (ins.length : Int) ≤ 8 by omega), eq_false (show ¬ (rows.length : Int) ≤ 128 by omega)])
      · rw [decide_eq_false (show ¬ ((0 : Int) ≤ ins.length ∧ (ins.length : Int) ≤ 8) by omega), Bool.false_and] at e
        subst e
        repeat' first | refine c_seq ?_ | refine c_reg' rfl fun K E hK hE => ?_ | ((first | refine r_opN fun κ η => ?_ | refine r_opG rfl fun κ η => ?_); simp only [go_sem, simprocAttr, Nat.le_refl, eq_false c1, eq_false (show ¬ (ins.length : Int) ≤ 8 by omega)]; (repeat refine ⟨by omega, ?_⟩); refine η _ ?_; clear η κ) | (refine r_nil (hK _ ?_); clear hE hK E K) | refine q_seq ?_ | refine c_cond false rfl (fun h => (by cases h)) fun _ => ?_ | refine c_exit ?_ | refine c_ret ?_ | refine q_seqE ?_ | refine q_blkHit ?_ | refine q_lpE ?_ | refine q_seqR ?_ | (refine q_ret ?_; refine q_r1 ?_; simp only [go_sem, simprocAttr, Nat.le_refl, eq_false c1, eq_false (show ¬ (ins.length : Int) ≤ 8 by omega)])
  rw [if_neg h10] at e
  have d10 := eq_false h10
  by_cases c1 : rows = []
  · subst c1
    rw [decide_eq_true rfl, Bool.true_and] at e
    cases off with
    | true =>
      rw [Bool.not_true, Bool.and_false, Bool.and_false] at e
      subst e
      refine ct_of (cls := _root_.id) tt_ok follows_ Tryd.func71 rfl (by decide) (Nat.le_of_ble_eq_true rfl) ?_
      rw [show Tryd.f71.ntmps = 82 from rfl, s0_nf]
      simp only [List.zipIdx_cons, List.zipIdx_nil, List.map_cons, List.map_nil, Nat.reduceAdd, rR, List.map_nil]
      repeat' first | refine c_seq ?_ | refine c_reg' rfl fun K E hK hE => ?_ | ((first | refine r_opN fun κ η => ?_ | refine r_opG rfl fun κ η => ?_); simp only [go_sem, simprocAttr, Nat.le_refl, d10, List.length_nil, Int.natCast_zero, Int.lt_irrefl]; (repeat refine ⟨by omega, ?_⟩); refine η _ ?_; clear η κ) | (refine r_nil (hK _ ?_); clear hE hK E K) | refine q_seq ?_ | refine c_cond true rfl (fun _ => ?_) (fun h => (by cases h)) | refine c_cond false rfl (fun h => (by cases h)) fun _ => ?_ | refine c_skip ?_ | refine c_ret ?_ | refine q_seqR ?_ | (refine q_ret ?_; refine q_r1 ?_; simp only [go_sem, simprocAttr, Nat.le_refl, d10, List.length_nil, Int.natCast_zero, Int.lt_irrefl])
    | false =>
      rw [Bool.not_false, Bool.and_true] at e
      by_cases d0 : op = 0
      · subst d0
        have e : R = decide ((ins.length : Int) = 0) := by rw [e, show opB 0 = true from rfl, show loF 0 = 0 from rfl, show hiF 0 = 0 from rfl, Bool.true_and, decide_eq_decide]; omega
        subst e
        refine ct_of (cls := _root_.id) tt_ok follows_ Tryd.func71 rfl (by decide) (Nat.le_of_ble_eq_true rfl) ?_
        rw [show Tryd.f71.ntmps = 82 from rfl, s0_nf]
        simp only [List.zipIdx_cons, List.zipIdx_nil, List.map_cons, List.map_nil, Nat.reduceAdd, rR, List.map_nil]
        repeat' first | refine c_seq ?_ | refine c_reg' rfl fun K E hK hE => ?_ | ((first | refine r_opN fun κ η => ?_ | refine r_opG rfl fun κ η => ?_); simp only [go_sem, simprocAttr, Nat.le_refl, List.length_nil, Int.natCast_zero, Int.lt_irrefl, Int.reduceEq]; (repeat refine ⟨by omega, ?_⟩); refine η _ ?_; clear η κ) | (refine r_nil (hK _ ?_); clear hE hK E K) | refine q_seq ?_ | refine c_cond true rfl (fun _ => ?_) (fun h => (by cases h)) | refine c_cond false rfl (fun h => (by cases h)) fun _ => ?_ | refine c_skip ?_ | refine c_ret ?_ | refine q_seqR ?_ | (refine q_ret ?_; refine q_r1 ?_; simp only [go_sem, simprocAttr, Nat.le_refl, List.length_nil, Int.natCast_zero, Int.lt_irrefl, Int.reduceEq])
      by_cases d1 : op = 1
      · subst d1
        have e : R = decide ((ins.length : Int) = 0) := by rw [e, show opB 1 = true from rfl, show loF 1 = 0 from rfl, show hiF 1 = 0 from rfl, Bool.true_and, decide_eq_decide]; omega
        subst e
        refine ct_of (cls := _root_.id) tt_ok follows_ Tryd.func71 rfl (by decide) (Nat.le_of_ble_eq_true rfl) ?_
        rw [show Tryd.f71.ntmps = 82 from rfl, s0_nf]
        simp only [List.zipIdx_cons, List.zipIdx_nil, List.map_cons, List.map_nil, Nat.reduceAdd, rR, List.map_nil]
        repeat' first | refine c_seq ?_ | refine c_reg' rfl fun K E hK hE => ?_ | ((first | refine r_opN fun κ η => ?_ | refine r_opG rfl fun κ η => ?_); simp only [go_sem, simprocAttr, Nat.le_refl, List.length_nil, Int.natCast_zero, Int.lt_irrefl, Int.reduceEq]; (repeat refine ⟨by omega, ?_⟩); refine η _ ?_; clear η κ) | (refine r_nil (hK _ ?_); clear hE hK E K) | refine q_seq ?_ | refine c_cond true rfl (fun _ => ?_) (fun h => (by cases h)) | refine c_cond false rfl (fun h => (by cases h)) fun _ => ?_ | refine c_skip ?_ | refine c_ret ?_ | refine q_seqR ?_ | (refine q_ret ?_; refine q_r1 ?_; simp only [go_sem, simprocAttr, Nat.le_refl, List.length_nil, Int.natCast_zero, Int.lt_irrefl, Int.reduceEq])
      by_cases d2 : op = 2
      · subst d2
        have e : R = decide ((ins.length : Int) = 1) := by rw [e, show opB 2 = true from rfl, show loF 2 = 1 from rfl, show hiF 2 = 1 from rfl, Bool.true_and, decide_eq_decide]; omega
        subst e
        refine ct_of (cls := _root_.id) tt_ok follows_ Tryd.func71 rfl (by decide) (Nat.le_of_ble_eq_true rfl) ?_
        rw [show Tryd.f71.ntmps = 82 from rfl, s0_nf]
        simp only [List.zipIdx_cons, List.zipIdx_nil, List.map_cons, List.map_nil, Nat.reduceAdd, rR, List.map_nil]
        repeat' first | refine c_seq ?_ | refine c_reg' rfl fun K E hK hE => ?_ | ((first | refine r_opN fun κ η => ?_ | refine r_opG rfl fun κ η => ?_); simp only [go_sem, simprocAttr, Nat.le_refl, List.length_nil, Int.natCast_zero, Int.lt_irrefl, Int.reduceEq]; (repeat refine ⟨by omega, ?_⟩); refine η _ ?_; clear η κ) | (refine r_nil (hK _ ?_); clear hE hK E K) | refine q_seq ?_ | refine c_cond true rfl (fun _ => ?_) (fun h => (by cases h)) | refine c_cond false rfl (fun h => (by cases h)) fun _ => ?_ | refine c_skip ?_ | refine c_ret ?_ | refine q_seqR ?_ | (refine q_ret ?_; refine q_r1 ?_; simp only [go_sem, simprocAttr, Nat.le_refl, List.length_nil, Int.natCast_zero, Int.lt_irrefl, Int.reduceEq])
      by_cases d3 : op = 3
      · subst d3
        have e : R = decide ((ins.length : Int) = 1) := by rw [e, show opB 3 = true from rfl, show loF 3 = 1 from rfl, show hiF 3 = 1 from rfl, Bool.true_and, decide_eq_decide]; omega
        subst e
        refine ct_of (cls := _root_.id) tt_ok follows_ Tryd.func71 rfl (by decide) (Nat.le_of_ble_eq_true rfl) ?_
        rw [show Tryd.f71.ntmps = 82 from rfl, s0_nf]
        simp only [List.zipIdx_cons, List.zipIdx_nil, List.map_cons, List.map_nil, Nat.reduceAdd, rR, List.map_nil]
        repeat' first | refine c_seq ?_ | refine c_reg' rfl fun K E hK hE => ?_ | ((first | refine r_opN fun κ η => ?_ | refine r_opG rfl fun κ η => ?_); simp only [go_sem, simprocAttr, Nat.le_refl, List.length_nil, Int.natCast_zero, Int.lt_irrefl, Int.reduceEq]; (repeat refine ⟨by omega, ?_⟩); refine η _ ?_; clear η κ) | (refine r_nil (hK _ ?_); clear hE hK E K) | refine q_seq ?_ | refine c_cond true rfl (fun _ => ?_) (fun h => (by cases h)) | refine c_cond false rfl (fun h => (by cases h)) fun _ => ?_ | refine c_skip ?_ | refine c_ret ?_ | refine q_seqR ?_ | (refine q_ret ?_; refine q_r1 ?_; simp only [go_sem, simprocAttr, Nat.le_refl, List.length_nil, Int.natCast_zero, Int.lt_irrefl, Int.reduceEq])
      have e0 := eq_false d0
      have e1 := eq_false d1
      have e2 := eq_false d2
      have e3 := eq_false d3
      by_cases d4 : 4 ≤ op
      · by_cases d9 : op ≤ 9
        · have hlo : loF op = 2 := by unfold loF; rw [if_neg (by omega), if_neg (by omega), if_pos d9]
          have hhi : hiF op = 8 := by unfold hiF; rw [if_neg (by omega), if_neg (by omega)]
          rw [show opB op = true from decide_eq_true (by omega), hlo, hhi, Bool.true_and] at e
          by_cases c2 : (2 : Int) ≤ ins.length
          · have e : R = decide ((ins.length : Int) ≤ 8) := by rw [e, decide_eq_decide]; omega
            subst e
            refine ct_of (cls := _root_.id) tt_ok follows_ Tryd.func71 rfl (by decide) (Nat.le_of_ble_eq_true rfl) ?_
            rw [show Tryd.f71.ntmps = 82 from rfl, s0_nf]
            simp only [List.zipIdx_cons, List.zipIdx_nil, List.map_cons, List.map_nil, Nat.reduceAdd, rR, List.map_nil]
            repeat' first | refine c_seq ?_ | refine c_reg' rfl fun K E hK hE => ?_ | ((first | refine r_opN fun κ η => ?_ | refine r_opG rfl fun κ η => ?_); simp only [go_sem, simprocAttr, Nat.le_refl, List.length_nil, Int.natCast_zero, Int.lt_irrefl, d10, e0, e1, e2, e3, eq_true d4, eq_true d9, eq_true c2]; (repeat refine ⟨by omega, ?_⟩); refine η _ ?_; clear η κ) | (refine r_nil (hK _ ?_); clear hE hK E K) | refine q_seq ?_ | refine c_cond false rfl (fun h => (by cases h)) fun _ => ?_ | refine c_skip ?_ | refine c_ret ?_ | (refine q_ret ?_; refine q_r1 ?_; simp only [go_sem, simprocAttr, Nat.le_refl, List.length_nil, Int.natCast_zero, Int.lt_irrefl, d10, e0, e1, e2, e3, eq_true d4, eq_true d9, eq_true c2])
          · rw [decide_eq_false (by omega)] at e
            subst e
            refine ct_of (cls := _root_.id) tt_ok follows_ Tryd.func71 rfl (by decide) (Nat.le_of_ble_eq_true rfl) ?_
            rw [show Tryd.f71.ntmps = 82 from rfl, s0_nf]
            simp only [List.zipIdx_cons, List.zipIdx_nil, List.map_cons, List.map_nil, Nat.reduceAdd, rR, List.map_nil]
            repeat' first | refine c_seq ?_ | refine c_reg' rfl fun K E hK hE => ?_ | ((first | refine r_opN fun κ η => ?_ | refine r_opG rfl fun κ η => ?_); simp only [go_sem, simprocAttr, Nat.le_refl, List.length_nil, Int.natCast_zero, Int.lt_irrefl, d10, e0, e1, e2, e3, eq_true d4, eq_true d9, eq_false c2]; (repeat refine ⟨by omega, ?_⟩); refine η _ ?_; clear η κ) | (refine r_nil (hK _ ?_); clear hE hK E K) | refine q_seq ?_ | refine c_cond false rfl (fun h => (by cases h)) fun _ => ?_ | refine c_skip ?_ | refine c_ret ?_ | (refine q_ret ?_; refine q_r1 ?_; simp only [go_sem, simprocAttr, Nat.le_refl, List.length_nil, Int.natCast_zero, Int.lt_irrefl, d10, e0, e1, e2, e3, eq_true d4, eq_true d9, eq_false c2])
        · rw [show opB op = false from decide_eq_false (by omega), Bool.false_and] at e
          subst e
          refine ct_of (cls := _root_.id) tt_ok follows_ Tryd.func71 rfl (by decide) (Nat.le_of_ble_eq_true rfl) ?_
          rw [show Tryd.f71.ntmps = 82 from rfl, s0_nf]
          simp only [List.zipIdx_cons, List.zipIdx_nil, List.map_cons, List.map_nil, Nat.reduceAdd, rR, List.map_nil]
          repeat' first | refine c_seq ?_ | refine c_reg' rfl fun K E hK hE => ?_ | ((first | refine r_opN fun κ η => ?_ | refine r_opG rfl fun κ η => ?_); simp only [go_sem, simprocAttr, Nat.le_refl, List.length_nil, Int.natCast_zero, Int.lt_irrefl, d10, e0, e1, e2, e3, eq_true d4, eq_false d9]; (repeat refine ⟨by omega, ?_⟩); refine η _ ?_; clear η κ) | (refine r_nil (hK _ ?_); clear hE hK E K) | refine q_seq ?_ | refine c_cond false rfl (fun h => (by cases h)) fun _ => ?_ | refine c_skip ?_ | refine c_ret ?_ | (refine q_ret ?_; refine q_r1 ?_; simp only [go_sem, simprocAttr, Nat.le_refl, List.length_nil, Int.natCast_zero, Int.lt_irrefl, d10, e0, e1, e2, e3, eq_true d4, eq_false d9])
      · rw [show opB op = false from decide_eq_false (by omega), Bool.false_and] at e
        subst e
        refine ct_of (cls := _root_.id) tt_ok follows_ Tryd.func71 rfl (by decide) (Nat.le_of_ble_eq_true rfl) ?_
        rw [show Tryd.f71.ntmps = 82 from rfl, s0_nf]
        simp only [List.zipIdx_cons, List.zipIdx_nil, List.map_cons, List.map_nil, Nat.reduceAdd, rR, List.map_nil]
        repeat' first | refine c_seq ?_ | refine c_reg' rfl fun K E hK hE => ?_ | ((first | refine r_opN fun κ η => ?_ | refine r_opG rfl fun κ η => ?_); simp only [go_sem, simprocAttr, Nat.le_refl, List.length_nil, Int.natCast_zero, Int.lt_irrefl, d10, e0, e1, e2, e3, eq_false d4]; (repeat refine ⟨by omega, ?_⟩); refine η _ ?_; clear η κ) | (refine r_nil (hK _ ?_); clear hE hK E K) | refine q_seq ?_ | refine c_cond false rfl (fun h => (by cases h)) fun _ => ?_ | refine c_skip ?_ | refine c_ret ?_ | (refine q_ret ?_; refine q_r1 ?_; simp only [go_sem, simprocAttr, Nat.le_refl, List.length_nil, Int.natCast_zero, Int.lt_irrefl, d10, e0, e1, e2, e3, eq_false d4])
  · rw [decide_eq_false c1, Bool.false_and, Bool.and_false, Bool.and_false] at e
    subst e
    have hp := List.length_pos_iff.2 c1
    refine ct_of (cls := _root_.id) tt_ok follows_ Tryd.func71 rfl (by decide) (Nat.le_of_ble_eq_true rfl) ?_
    rw [show Tryd.f71.ntmps = 82 from rfl, s0_nf]
    simp only [List.zipIdx_cons, List.zipIdx_nil, List.map_cons, List.map_nil, Nat.reduceAdd]
    repeat' first | refine c_seq ?_ | refine c_reg' rfl fun K E hK hE => ?_ | ((first | refine r_opN fun κ η => ?_ | refine r_opG rfl fun κ η => ?_); simp only [go_sem, simprocAttr, Nat.le_refl, d10, eq_true (show (0 : Int) < rows.length by omega)]; (repeat refine ⟨by omega, ?_⟩); refine η _ ?_; clear η κ) | (refine r_nil (hK _ ?_); clear hE hK E K) | refine q_seq ?_ | refine c_cond true rfl (fun _ => ?_) (fun h => (by cases h)) | refine c_cond false rfl (fun h => (by cases h)) fun _ => ?_ | refine c_skip ?_ | refine c_ret ?_ | refine q_seqR ?_ | (refine q_ret ?_; refine q_r1 ?_; simp only [go_sem, simprocAttr, Nat.le_refl, d10, eq_true (show (0 : Int) < rows.length by omega)])
end Go.Proofs.YtbhoeanfnbkenaaDoor
