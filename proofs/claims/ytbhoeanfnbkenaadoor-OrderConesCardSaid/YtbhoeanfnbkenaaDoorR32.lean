import Derived.Test.YtbhoeanfnbkenaaDoorR2
import Derived.Test.YtbhoeanfnbkenaaDoorR10
import Derived.Test.YtbhoeanfnbkenaaDoorR12
namespace Go.Proofs.YtbhoeanfnbkenaaDoor
open Go.RowKit Go.WideMaps
set_option maxRecDepth 100000
set_option linter.unusedSimpArgs false
variable (Hy : World → Prop)
attribute [local irreducible] runM runD cwp seqQ blkQ lpQ retQ asQ bdQ bdY retP endR preD retD
theorem rHas_ct (l : List ByteArray) (s : ByteArray) (h : l.length ≤ 140737488355328) : Ct Tryd.prog Hy 31 [.sl (sR l), .s s] [.b (decide (s ∈ l))] := by
  refine ct_of (cls := _root_.id) tt_ok follows_ Tryd.func31 rfl (by decide) (Nat.le_of_ble_eq_true rfl) ?_
  rw [show Tryd.f31.ntmps = 18 from rfl, s0_nf]
  simp only [List.zipIdx_cons, List.zipIdx_nil, List.map_cons, List.map_nil, Nat.reduceAdd]
  repeat' first | refine c_seq ?_ | refine c_block ?_ | refine c_reg' rfl fun K E hK hE => ?_ | (refine r_opN fun κ η => ?_; simp only [go_sem, simprocAttr, Nat.le_refl]; refine η _ ?_; clear η κ) | (refine r_nil (hK _ ?_); clear hE hK E K) | refine q_seq ?_
  refine c_loop (fun m s' => ∃ k : Nat, m = l.length - k ∧ k ≤ l.length ∧ (∀ (j : Nat) y, j < k → l[j]? = some y → y ≠ s) ∧ ∃ F G0, s' = nf 18 F G0 [(0, .t (.sl (sR l))), (1, .t (.s s)), (5, .t (.i .i64 k))] []) (l.length) ?_ ?_
  · exact ⟨0, by omega, by omega, fun j x hj => absurd hj (Nat.not_lt_zero j), _, _, nf_of rfl ⟨rfl, rfl, rfl, trivial⟩ trivial⟩
  rintro m s' ⟨k, rfl, hk, hno, F, G0, rfl⟩
  repeat' first | refine c_seq ?_ | refine c_reg' rfl fun K E hK hE => ?_ | (refine r_opN fun κ η => ?_; simp only [go_sem, simprocAttr, Nat.le_refl]; refine η _ ?_; clear η κ) | (refine r_nil (hK _ ?_); clear hE hK E K) | refine q_seq ?_
  refine c_cond _ rfl (fun hq => ?_) (fun hq => ?_)
  · simp only [decide_eq_true_eq] at hq
    obtain ⟨x, hx⟩ : ∃ x, l[k]? = some x := ⟨_, List.getElem?_eq_getElem (by omega)⟩
    have hx' := sR_get hx
    by_cases hxa : x = s
    · repeat' first | refine c_seq ?_ | refine c_block ?_ | refine c_reg' rfl fun K E hK hE => ?_ | (refine r_opN fun κ η => ?_; simp only [go_sem, simprocAttr, Nat.le_refl, hx', eq_true hxa]; (repeat refine ⟨by omega, ?_⟩); refine η _ ?_; clear η κ) | (refine r_nil (hK _ ?_); clear hE hK E K) | refine q_seq ?_ | refine c_cond true rfl (fun _ => ?_) (fun h => (by cases h)) | refine c_skip ?_ | refine c_ret ?_ | refine q_seqR ?_ | refine q_blkR ?_ | refine q_lpR ?_ | (refine q_ret ?_; refine q_r1 ?_; simp only [go_sem, simprocAttr, Nat.le_refl, hx', eq_true hxa])
      rw [decide_eq_true (hxa ▸ List.mem_of_getElem? hx)]
    · repeat' first | refine c_seq ?_ | refine c_block ?_ | refine c_reg' rfl fun K E hK hE => ?_ | (refine r_opN fun κ η => ?_; simp only [go_sem, simprocAttr, Nat.le_refl, hx', eq_false hxa]; (repeat refine ⟨by omega, ?_⟩); refine η _ ?_; clear η κ) | (refine r_nil (hK _ ?_); clear hE hK E K) | refine q_seq ?_ | refine c_cond false rfl (fun h => (by cases h)) fun _ => ?_ | refine q_blk ?_ | refine c_skip ?_ | refine q_lpN ?_
      refine ⟨l.length - (k + 1), by omega, k + 1, rfl, by omega, fun j y hj hy => ?_, _, _, nf_of rfl ⟨rfl, rfl, rfl, trivial⟩ trivial⟩
      rcases Nat.lt_or_eq_of_le (Nat.lt_succ_iff.1 hj) with h | rfl
      · exact hno j y h hy
      · rw [hx] at hy; cases hy; exact hxa
  · simp only [decide_eq_false_iff_not] at hq
    repeat' first | refine c_seq ?_ | refine c_reg' rfl fun K E hK hE => ?_ | (refine r_opN fun κ η => ?_; simp only [go_sem, simprocAttr, Nat.le_refl]; refine η _ ?_; clear η κ) | (refine r_nil (hK _ ?_); clear hE hK E K) | refine q_seq ?_ | refine c_exit ?_ | refine c_ret ?_ | refine q_seqE ?_ | refine q_blkHit ?_ | refine q_lpE ?_ | (refine q_ret ?_; refine q_r1 ?_; simp only [go_sem, simprocAttr, Nat.le_refl])
    rw [decide_eq_false]
    intro hm
    obtain ⟨j, hj⟩ := List.getElem?_of_mem hm
    have := (List.getElem?_eq_some_iff.1 hj).1
    exact hno j s (by omega) hj rfl
end Go.Proofs.YtbhoeanfnbkenaaDoor
namespace Go.Proofs.YtbhoeanfnbkenaaDoor
open Go.RowKit Go.WideMaps
set_option maxRecDepth 100000
set_option linter.unusedSimpArgs false
variable (Hy : World → Prop)
attribute [local irreducible] runM runD cwp seqQ blkQ lpQ retQ asQ bdQ bdY retP endR preD retD
set_option maxHeartbeats 2000000 in
theorem rInts_ct (a b : List Int) (ha : a.length ≤ 140737488355328) (hb : b.length ≤ 140737488355328) : Ct Tryd.prog Hy 18 [.sl (iR a), .sl (iR b)] [.b (decide (a = b))] := by
  obtain ⟨R, hR⟩ : ∃ R, R = decide (a = b) := ⟨_, rfl⟩
  rw [← hR]
  by_cases hl : a.length = b.length
  · have hl' : ((a.length : Int) = b.length) = True := eq_true (by omega)
    refine ct_of (cls := _root_.id) tt_ok follows_ Tryd.func18 rfl (by decide) (Nat.le_of_ble_eq_true rfl) ?_
    rw [show Tryd.f18.ntmps = 26 from rfl, s0_nf]
    simp only [List.zipIdx_cons, List.zipIdx_nil, List.map_cons, List.map_nil, Nat.reduceAdd]
    repeat' first | refine c_seq ?_ | refine c_block ?_ | refine c_reg' rfl fun K E hK hE => ?_ | (refine r_opN fun κ η => ?_; simp only [go_sem, simprocAttr, Nat.le_refl, hl']; refine η _ ?_; clear η κ) | (refine r_nil (hK _ ?_); clear hE hK E K) | refine q_seq ?_ | refine c_cond false rfl (fun h => (by cases h)) fun _ => ?_ | refine c_skip ?_
    refine c_loop (fun m s' => ∃ k : Nat, m = a.length - k ∧ k ≤ a.length ∧ (∀ (j : Nat), j < k → a[j]? = b[j]?) ∧ ∃ F G0, s' = nf 26 F G0 [(0, .t (.sl (iR a))), (1, .t (.sl (iR b))), (5, .t (.i .i64 k))] []) a.length ?_ ?_
    · exact ⟨0, by omega, by omega, fun j hj => absurd hj (Nat.not_lt_zero j), _, _, nf_of rfl ⟨rfl, rfl, rfl, trivial⟩ trivial⟩
    rintro m s' ⟨k, rfl, hk, hno, F, G0, rfl⟩
    by_cases hd : k < a.length
    · have hd' : ((k : Int) < a.length) = True := eq_true (by omega)
      obtain ⟨x, hx⟩ : ∃ x, a[k]? = some x := ⟨_, List.getElem?_eq_getElem hd⟩
      obtain ⟨y, hy⟩ : ∃ y, b[k]? = some y := ⟨_, List.getElem?_eq_getElem (by omega)⟩
      have hx' := iR_get hx
      have hy' := iR_get hy
      by_cases he : x = y
      · have he' := eq_true he
        repeat' first | refine c_seq ?_ | refine c_block ?_ | refine c_reg' rfl fun K E hK hE => ?_ | refine c_draw' rfl (by kernel_rfl) fun K E hK hE => ?_ | ((first | refine r_opN fun κ η => ?_ | refine d_opN (by kernel_rfl) fun κ η => ?_); simp only [go_sem, simprocAttr, Nat.le_refl, hd', hx', hy', he', decide_true]; (repeat refine ⟨by omega, ?_⟩); refine η _ ?_; clear η κ) | (refine r_nil (hK _ ?_); clear hE hK E K) | refine q_seq ?_ | refine c_cond true rfl (fun _ => ?_) (fun h => (by cases h)) | refine c_cond false rfl (fun h => (by cases h)) fun _ => ?_ | (refine d_nil (hK _ ?_); clear hE hK E K) | refine q_blk ?_ | refine c_skip ?_ | refine q_lpN ?_
        refine ⟨a.length - (k + 1), by omega, k + 1, rfl, by omega, fun j hj => ?_, _, _, nf_of rfl ⟨rfl, rfl, rfl, trivial⟩ trivial⟩
        rcases Nat.lt_or_eq_of_le (Nat.lt_succ_iff.1 hj) with h | rfl
        · exact hno j h
        · rw [hx, hy, he]
      · have he' := eq_false he
        have hR0 : R = false := by
          rw [hR, decide_eq_false]
          rintro rfl
          rw [hx] at hy
          exact he (Option.some.inj hy)
        subst hR0
        repeat' first | refine c_seq ?_ | refine c_block ?_ | refine c_reg' rfl fun K E hK hE => ?_ | refine c_draw' rfl (by kernel_rfl) fun K E hK hE => ?_ | ((first | refine r_opN fun κ η => ?_ | refine d_opN (by kernel_rfl) fun κ η => ?_); simp only [go_sem, simprocAttr, Nat.le_refl, hd', hx', hy', he', decide_false]; (repeat refine ⟨by omega, ?_⟩); refine η _ ?_; clear η κ) | (refine r_nil (hK _ ?_); clear hE hK E K) | refine q_seq ?_ | refine c_cond true rfl (fun _ => ?_) (fun h => (by cases h)) | (refine d_nil (hK _ ?_); clear hE hK E K) | refine c_skip ?_ | refine c_ret ?_ | refine q_seqR ?_ | refine q_blkR ?_ | refine q_lpR ?_ | (refine q_ret ?_; refine q_r1 ?_; simp only [go_sem, simprocAttr, Nat.le_refl, hd', hx', hy', he', decide_false])
    · have hd' : ((k : Int) < a.length) = False := eq_false (by omega)
      have hR1 : R = true := by
        rw [hR, decide_eq_true_eq]
        refine List.ext_getElem? fun j => ?_
        by_cases hj : j < k
        · exact hno j hj
        · rw [List.getElem?_eq_none (by omega), List.getElem?_eq_none (by omega)]
      subst hR1
      repeat' first | refine c_seq ?_ | refine c_reg' rfl fun K E hK hE => ?_ | (refine r_opN fun κ η => ?_; simp only [go_sem, simprocAttr, Nat.le_refl, hd']; refine η _ ?_; clear η κ) | (refine r_nil (hK _ ?_); clear hE hK E K) | refine q_seq ?_ | refine c_cond false rfl (fun h => (by cases h)) fun _ => ?_ | refine c_exit ?_ | refine c_ret ?_ | refine q_seqE ?_ | refine q_blkHit ?_ | refine q_lpE ?_ | (refine q_ret ?_; refine q_r1 ?_; simp only [go_sem, simprocAttr, Nat.le_refl, hd'])
  · have hl' : ((a.length : Int) = b.length) = False := eq_false (by omega)
    have hR0 : R = false := by
      rw [hR, decide_eq_false]
      rintro rfl
      exact hl rfl
    subst hR0
    refine ct_of (cls := _root_.id) tt_ok follows_ Tryd.func18 rfl (by decide) (Nat.le_of_ble_eq_true rfl) ?_
    rw [show Tryd.f18.ntmps = 26 from rfl, s0_nf]
    simp only [List.zipIdx_cons, List.zipIdx_nil, List.map_cons, List.map_nil, Nat.reduceAdd]
    repeat' first | refine c_seq ?_ | refine c_reg' rfl fun K E hK hE => ?_ | (refine r_opN fun κ η => ?_; simp only [go_sem, simprocAttr, Nat.le_refl, hl']; refine η _ ?_; clear η κ) | (refine r_nil (hK _ ?_); clear hE hK E K) | refine q_seq ?_ | refine c_cond true rfl (fun _ => ?_) (fun h => (by cases h)) | refine c_ret ?_ | refine q_seqR ?_ | (refine q_ret ?_; refine q_r1 ?_; simp only [go_sem, simprocAttr, Nat.le_refl, hl'])
set_option maxHeartbeats 2000000 in
theorem rTexts_ct (a b : List ByteArray) (ha : a.length ≤ 140737488355328) (hb : b.length ≤ 140737488355328) : Ct Tryd.prog Hy 21 [.sl (sR a), .sl (sR b)] [.b (decide (a = b))] := by
  obtain ⟨R, hR⟩ : ∃ R, R = decide (a = b) := ⟨_, rfl⟩
  rw [← hR]
  by_cases hl : a.length = b.length
  · have hl' : ((a.length : Int) = b.length) = True := eq_true (by omega)
    refine ct_of (cls := _root_.id) tt_ok follows_ Tryd.func21 rfl (by decide) (Nat.le_of_ble_eq_true rfl) ?_
    rw [show Tryd.f21.ntmps = 26 from rfl, s0_nf]
    simp only [List.zipIdx_cons, List.zipIdx_nil, List.map_cons, List.map_nil, Nat.reduceAdd]
    repeat' first | refine c_seq ?_ | refine c_block ?_ | refine c_reg' rfl fun K E hK hE => ?_ | (refine r_opN fun κ η => ?_; simp only [go_sem, simprocAttr, Nat.le_refl, hl']; refine η _ ?_; clear η κ) | (refine r_nil (hK _ ?_); clear hE hK E K) | refine q_seq ?_ | refine c_cond false rfl (fun h => (by cases h)) fun _ => ?_ | refine c_skip ?_
    refine c_loop (fun m s' => ∃ k : Nat, m = a.length - k ∧ k ≤ a.length ∧ (∀ (j : Nat), j < k → a[j]? = b[j]?) ∧ ∃ F G0, s' = nf 26 F G0 [(0, .t (.sl (sR a))), (1, .t (.sl (sR b))), (5, .t (.i .i64 k))] []) a.length ?_ ?_
    · exact ⟨0, by omega, by omega, fun j hj => absurd hj (Nat.not_lt_zero j), _, _, nf_of rfl ⟨rfl, rfl, rfl, trivial⟩ trivial⟩
    rintro m s' ⟨k, rfl, hk, hno, F, G0, rfl⟩
    by_cases hd : k < a.length
    · have hd' : ((k : Int) < a.length) = True := eq_true (by omega)
      obtain ⟨x, hx⟩ : ∃ x, a[k]? = some x := ⟨_, List.getElem?_eq_getElem hd⟩
      obtain ⟨y, hy⟩ : ∃ y, b[k]? = some y := ⟨_, List.getElem?_eq_getElem (by omega)⟩
      have hx' := sR_get hx
      have hy' := sR_get hy
      by_cases he : x = y
      · have he' := eq_true he
        repeat' first | refine c_seq ?_ | refine c_block ?_ | refine c_reg' rfl fun K E hK hE => ?_ | refine c_draw' rfl (by kernel_rfl) fun K E hK hE => ?_ | ((first | refine r_opN fun κ η => ?_ | refine d_opN (by kernel_rfl) fun κ η => ?_); simp only [go_sem, simprocAttr, Nat.le_refl, hd', hx', hy', he', decide_true]; (repeat refine ⟨by omega, ?_⟩); refine η _ ?_; clear η κ) | (refine r_nil (hK _ ?_); clear hE hK E K) | refine q_seq ?_ | refine c_cond true rfl (fun _ => ?_) (fun h => (by cases h)) | refine c_cond false rfl (fun h => (by cases h)) fun _ => ?_ | (refine d_nil (hK _ ?_); clear hE hK E K) | refine q_blk ?_ | refine c_skip ?_ | refine q_lpN ?_
        refine ⟨a.length - (k + 1), by omega, k + 1, rfl, by omega, fun j hj => ?_, _, _, nf_of rfl ⟨rfl, rfl, rfl, trivial⟩ trivial⟩
        rcases Nat.lt_or_eq_of_le (Nat.lt_succ_iff.1 hj) with h | rfl
        · exact hno j h
        · rw [hx, hy, he]
      · have he' := eq_false he
        have hR0 : R = false := by
          rw [hR, decide_eq_false]
          rintro rfl
          rw [hx] at hy
          exact he (Option.some.inj hy)
        subst hR0
        repeat' first | refine c_seq ?_ | refine c_block ?_ | refine c_reg' rfl fun K E hK hE => ?_ | refine c_draw' rfl (by kernel_rfl) fun K E hK hE => ?_ | ((first | refine r_opN fun κ η => ?_ | refine d_opN (by kernel_rfl) fun κ η => ?_); simp only [go_sem, simprocAttr, Nat.le_refl, hd', hx', hy', he', decide_false]; (repeat refine ⟨by omega, ?_⟩); refine η _ ?_; clear η κ) | (refine r_nil (hK _ ?_); clear hE hK E K) | refine q_seq ?_ | refine c_cond true rfl (fun _ => ?_) (fun h => (by cases h)) | (refine d_nil (hK _ ?_); clear hE hK E K) | refine c_skip ?_ | refine c_ret ?_ | refine q_seqR ?_ | refine q_blkR ?_ | refine q_lpR ?_ | (refine q_ret ?_; refine q_r1 ?_; simp only [go_sem, simprocAttr, Nat.le_refl, hd', hx', hy', he', decide_false])
    · have hd' : ((k : Int) < a.length) = False := eq_false (by omega)
      have hR1 : R = true := by
        rw [hR, decide_eq_true_eq]
        refine List.ext_getElem? fun j => ?_
        by_cases hj : j < k
        · exact hno j hj
        · rw [List.getElem?_eq_none (by omega), List.getElem?_eq_none (by omega)]
      subst hR1
      repeat' first | refine c_seq ?_ | refine c_reg' rfl fun K E hK hE => ?_ | (refine r_opN fun κ η => ?_; simp only [go_sem, simprocAttr, Nat.le_refl, hd']; refine η _ ?_; clear η κ) | (refine r_nil (hK _ ?_); clear hE hK E K) | refine q_seq ?_ | refine c_cond false rfl (fun h => (by cases h)) fun _ => ?_ | refine c_exit ?_ | refine c_ret ?_ | refine q_seqE ?_ | refine q_blkHit ?_ | refine q_lpE ?_ | (refine q_ret ?_; refine q_r1 ?_; simp only [go_sem, simprocAttr, Nat.le_refl, hd'])
  · have hl' : ((a.length : Int) = b.length) = False := eq_false (by omega)
    have hR0 : R = false := by
      rw [hR, decide_eq_false]
      rintro rfl
      exact hl rfl
    subst hR0
    refine ct_of (cls := _root_.id) tt_ok follows_ Tryd.func21 rfl (by decide) (Nat.le_of_ble_eq_true rfl) ?_
    rw [show Tryd.f21.ntmps = 26 from rfl, s0_nf]
    simp only [List.zipIdx_cons, List.zipIdx_nil, List.map_cons, List.map_nil, Nat.reduceAdd]
    repeat' first | refine c_seq ?_ | refine c_reg' rfl fun K E hK hE => ?_ | (refine r_opN fun κ η => ?_; simp only [go_sem, simprocAttr, Nat.le_refl, hl']; refine η _ ?_; clear η κ) | (refine r_nil (hK _ ?_); clear hE hK E K) | refine q_seq ?_ | refine c_cond true rfl (fun _ => ?_) (fun h => (by cases h)) | refine c_ret ?_ | refine q_seqR ?_ | (refine q_ret ?_; refine q_r1 ?_; simp only [go_sem, simprocAttr, Nat.le_refl, hl'])
end Go.Proofs.YtbhoeanfnbkenaaDoor
namespace Go.Proofs.YtbhoeanfnbkenaaDoor
open Go.RowKit Go.WideMaps
set_option maxRecDepth 100000
set_option linter.unusedSimpArgs false
variable (Hy : World → Prop)
attribute [local irreducible] runM runD cwp seqQ blkQ lpQ retQ asQ bdQ bdY retP endR preD retD
theorem rR_sR (l : List Row) : rR l = sR (l.map mk) := by
  unfold rR sR
  rw [List.map_map]
  rfl
theorem mk_one {a b : Row} (h : mk a = mk b) : a = b := by
  have := congrArg (fun s : ByteArray => s.data.toList) h
  simpa [mk] using this
theorem mks_one {a b : List Row} : a.map mk = b.map mk ↔ a = b := List.map_inj_right (fun _ _ h => mk_one h)
set_option maxHeartbeats 4000000 in
theorem rsameGate_ct (a b : Gt) (h1 : a.ins.length ≤ 140737488355328) (h2 : b.ins.length ≤ 140737488355328) (h3 : a.rows.length ≤ 140737488355328) (h4 : b.rows.length ≤ 140737488355328) : Ct Tryd.prog Hy 54 [.ag (gT a), .ag (gT b)] [.b (decide (a = b))] := by
  obtain ⟨R, hR⟩ : ∃ R, R = decide (a = b) := ⟨_, rfl⟩
  rw [← hR]
  have ht1 := rTexts_ct Hy a.ins b.ins h1 h2
  have ht2 := rTexts_ct Hy (a.rows.map mk) (b.rows.map mk) (by rw [List.length_map]; exact h3) (by rw [List.length_map]; exact h4)
  rw [← rR_sR, ← rR_sR] at ht2
  obtain ⟨na, oa, ia, ra, fa⟩ := a
  obtain ⟨nb, ob, ib, rb, fb⟩ := b
  simp only at ht1 ht2
  simp only [Gt.mk.injEq] at hR
  by_cases c1 : na = nb
  · by_cases c2 : oa = ob
    · by_cases c3 : fa = fb
      · by_cases c4 : ia = ib
        · by_cases c5 : ra = rb
          · rw [decide_eq_true c4] at ht1
            rw [decide_eq_true (mks_one.2 c5)] at ht2
            obtain rfl : R = true := by rw [hR]; simp [c1, c2, c3, c4, c5]
            refine ct_of (cls := _root_.id) tt_ok follows_ Tryd.func54 rfl (by decide) (Nat.le_of_ble_eq_true rfl) ?_
            rw [show Tryd.f54.ntmps = 38 from rfl, s0_nf]
            simp only [List.zipIdx_cons, List.zipIdx_nil, List.map_cons, List.map_nil, Nat.reduceAdd, gT]
            repeat' first | refine c_seq ?_ | refine c_reg' rfl fun K E hK hE => ?_ | ((first | refine r_opN fun κ η => ?_ | refine r_opG rfl fun κ η => ?_); simp only [go_sem, simprocAttr, Nat.le_refl, eq_true c1, eq_true c2, c3, beq_self_eq_true]; (repeat refine ⟨by omega, ?_⟩); refine η _ ?_; clear η κ) | (refine r_nil (hK _ ?_); clear hE hK E K) | refine q_seq ?_
            refine r_opG rfl fun κ η => ?_; simp only [go_sem, simprocAttr, Nat.le_refl]; refine ⟨_, ht1, ?_⟩; simp only [go_sem, simprocAttr, Nat.le_refl]; refine η _ ?_; clear η κ
            repeat' ((first | refine r_opN fun κ η => ?_ | refine r_opG rfl fun κ η => ?_); simp only [go_sem, simprocAttr, Nat.le_refl]; (repeat refine ⟨by omega, ?_⟩); refine η _ ?_; clear η κ)
            refine r_opG rfl fun κ η => ?_; simp only [go_sem, simprocAttr, Nat.le_refl]; refine ⟨_, ht2, ?_⟩; simp only [go_sem, simprocAttr, Nat.le_refl]; refine η _ ?_; clear η κ
            repeat' first | (refine r_opN fun κ η => ?_; simp only [go_sem, simprocAttr, Nat.le_refl]; refine η _ ?_; clear η κ) | (refine r_nil (hK _ ?_); clear hE hK E K) | refine q_seq ?_ | refine c_ret ?_ | (refine q_ret ?_; refine q_r1 ?_; simp only [go_sem, simprocAttr, Nat.le_refl])
          · rw [decide_eq_true c4] at ht1
            rw [decide_eq_false (fun h => c5 (mks_one.1 h))] at ht2
            obtain rfl : R = false := by rw [hR]; simp [c5]
            refine ct_of (cls := _root_.id) tt_ok follows_ Tryd.func54 rfl (by decide) (Nat.le_of_ble_eq_true rfl) ?_
            rw [show Tryd.f54.ntmps = 38 from rfl, s0_nf]
            simp only [List.zipIdx_cons, List.zipIdx_nil, List.map_cons, List.map_nil, Nat.reduceAdd, gT]
            repeat' first | refine c_seq ?_ | refine c_reg' rfl fun K E hK hE => ?_ | ((first | refine r_opN fun κ η => ?_ | refine r_opG rfl fun κ η => ?_); simp only [go_sem, simprocAttr, Nat.le_refl, eq_true c1, eq_true c2, c3, beq_self_eq_true]; (repeat refine ⟨by omega, ?_⟩); refine η _ ?_; clear η κ) | (refine r_nil (hK _ ?_); clear hE hK E K) | refine q_seq ?_
            refine r_opG rfl fun κ η => ?_; simp only [go_sem, simprocAttr, Nat.le_refl]; refine ⟨_, ht1, ?_⟩; simp only [go_sem, simprocAttr, Nat.le_refl]; refine η _ ?_; clear η κ
            repeat' ((first | refine r_opN fun κ η => ?_ | refine r_opG rfl fun κ η => ?_); simp only [go_sem, simprocAttr, Nat.le_refl]; (repeat refine ⟨by omega, ?_⟩); refine η _ ?_; clear η κ)
            refine r_opG rfl fun κ η => ?_; simp only [go_sem, simprocAttr, Nat.le_refl]; refine ⟨_, ht2, ?_⟩; simp only [go_sem, simprocAttr, Nat.le_refl]; refine η _ ?_; clear η κ
            repeat' first | (refine r_opN fun κ η => ?_; simp only [go_sem, simprocAttr, Nat.le_refl]; refine η _ ?_; clear η κ) | (refine r_nil (hK _ ?_); clear hE hK E K) | refine q_seq ?_ | refine c_ret ?_ | (refine q_ret ?_; refine q_r1 ?_; simp only [go_sem, simprocAttr, Nat.le_refl])
        · rw [decide_eq_false c4] at ht1
          obtain rfl : R = false := by rw [hR]; simp [c4]
          refine ct_of (cls := _root_.id) tt_ok follows_ Tryd.func54 rfl (by decide) (Nat.le_of_ble_eq_true rfl) ?_
          rw [show Tryd.f54.ntmps = 38 from rfl, s0_nf]
          simp only [List.zipIdx_cons, List.zipIdx_nil, List.map_cons, List.map_nil, Nat.reduceAdd, gT]
          repeat' first | refine c_seq ?_ | refine c_reg' rfl fun K E hK hE => ?_ | ((first | refine r_opN fun κ η => ?_ | refine r_opG rfl fun κ η => ?_); simp only [go_sem, simprocAttr, Nat.le_refl, eq_true c1, eq_true c2, c3, beq_self_eq_true]; (repeat refine ⟨by omega, ?_⟩); refine η _ ?_; clear η κ) | (refine r_nil (hK _ ?_); clear hE hK E K) | refine q_seq ?_
          refine r_opG rfl fun κ η => ?_; simp only [go_sem, simprocAttr, Nat.le_refl]; refine ⟨_, ht1, ?_⟩; simp only [go_sem, simprocAttr, Nat.le_refl]; refine η _ ?_; clear η κ
          repeat' first | ((first | refine r_opN fun κ η => ?_ | refine r_opG rfl fun κ η => ?_); simp only [go_sem, simprocAttr, Nat.le_refl]; refine η _ ?_; clear η κ) | (refine r_nil (hK _ ?_); clear hE hK E K) | refine q_seq ?_ | refine c_ret ?_ | (refine q_ret ?_; refine q_r1 ?_; simp only [go_sem, simprocAttr, Nat.le_refl])
      · obtain rfl : R = false := by rw [hR]; simp [c3]
        have c3' : (fa == fb) = false := by simpa using c3
        refine ct_of (cls := _root_.id) tt_ok follows_ Tryd.func54 rfl (by decide) (Nat.le_of_ble_eq_true rfl) ?_
        rw [show Tryd.f54.ntmps = 38 from rfl, s0_nf]
        simp only [List.zipIdx_cons, List.zipIdx_nil, List.map_cons, List.map_nil, Nat.reduceAdd, gT]
        repeat' first | refine c_seq ?_ | refine c_reg' rfl fun K E hK hE => ?_ | ((first | refine r_opN fun κ η => ?_ | refine r_opG rfl fun κ η => ?_); simp only [go_sem, simprocAttr, Nat.le_refl, eq_true c1, eq_true c2, eq_false c3, c3']; (repeat refine ⟨by omega, ?_⟩); refine η _ ?_; clear η κ) | (refine r_nil (hK _ ?_); clear hE hK E K) | refine q_seq ?_ | refine c_ret ?_ | (refine q_ret ?_; refine q_r1 ?_; simp only [go_sem, simprocAttr, Nat.le_refl, eq_true c1, eq_true c2, eq_false c3, c3'])
    · obtain rfl : R = false := by rw [hR]; simp [c2]
      refine ct_of (cls := _root_.id) tt_ok follows_ Tryd.func54 rfl (by decide) (Nat.le_of_ble_eq_true rfl) ?_
      rw [show Tryd.f54.ntmps = 38 from rfl, s0_nf]
      simp only [List.zipIdx_cons, List.zipIdx_nil, List.map_cons, List.map_nil, Nat.reduceAdd, gT]
      repeat' first | refine c_seq ?_ | refine c_reg' rfl fun K E hK hE => ?_ | ((first | refine r_opN fun κ η => ?_ | refine r_opG rfl fun κ η => ?_); simp only [go_sem, simprocAttr, Nat.le_refl, eq_true c1, eq_false c2]; (repeat refine ⟨by omega, ?_⟩); refine η _ ?_; clear η κ) | (refine r_nil (hK _ ?_); clear hE hK E K) | refine q_seq ?_ | refine c_ret ?_ | (refine q_ret ?_; refine q_r1 ?_; simp only [go_sem, simprocAttr, Nat.le_refl, eq_true c1, eq_false c2])
  · obtain rfl : R = false := by rw [hR]; simp [c1]
    refine ct_of (cls := _root_.id) tt_ok follows_ Tryd.func54 rfl (by decide) (Nat.le_of_ble_eq_true rfl) ?_
    rw [show Tryd.f54.ntmps = 38 from rfl, s0_nf]
    simp only [List.zipIdx_cons, List.zipIdx_nil, List.map_cons, List.map_nil, Nat.reduceAdd, gT]
    repeat' first | refine c_seq ?_ | refine c_reg' rfl fun K E hK hE => ?_ | ((first | refine r_opN fun κ η => ?_ | refine r_opG rfl fun κ η => ?_); simp only [go_sem, simprocAttr, Nat.le_refl, eq_false c1]; (repeat refine ⟨by omega, ?_⟩); refine η _ ?_; clear η κ) | (refine r_nil (hK _ ?_); clear hE hK E K) | refine q_seq ?_ | refine c_ret ?_ | (refine q_ret ?_; refine q_r1 ?_; simp only [go_sem, simprocAttr, Nat.le_refl, eq_false c1])
end Go.Proofs.YtbhoeanfnbkenaaDoor
namespace Go.Proofs.YtbhoeanfnbkenaaDoor
open Go.RowKit
set_option maxRecDepth 100000
set_option linter.unusedSimpArgs false
variable (Hy : World → Prop)
attribute [local irreducible] runM runD cwp seqQ blkQ lpQ retQ asQ bdQ bdY retP endR preD retD
/-- are texts so few and so short -/
def textsB (l : List ByteArray) (k : Nat) : Bool := decide (l.length ≤ k) && l.all fun s => decide (s.size ≤ 60)
set_option maxHeartbeats 2000000 in
theorem texts_ct (l : List ByteArray) (k : Nat) (hk : k ≤ 1000) : Ct Tryd.prog Hy 22 [.sl (sR l), .i .i64 k] [.b (textsB l k)] := by
  obtain ⟨R, hR⟩ : ∃ R, R = textsB l k := ⟨_, rfl⟩
  rw [← hR]
  refine ct_of (cls := _root_.id) tt_ok follows_ Tryd.func22 rfl (by decide) (Nat.le_of_ble_eq_true rfl) ?_
  rw [show Tryd.f22.ntmps = 27 from rfl, s0_nf]
  simp only [List.zipIdx_cons, List.zipIdx_nil, List.map_cons, List.map_nil, Nat.reduceAdd]
  repeat' first | refine c_seq ?_ | refine c_block ?_ | refine c_reg' rfl fun K E hK hE => ?_ | (refine r_opN fun κ η => ?_; simp only [go_sem, simprocAttr, Nat.le_refl]; refine η _ ?_; clear η κ) | (refine r_nil (hK _ ?_); clear hE hK E K) | refine q_seq ?_
  refine c_loop (fun m s' => ∃ i : Nat, m = k + 1 - i ∧ i ≤ k + 1 ∧ i ≤ l.length ∧ (∀ (j : Nat) r, j < i → l[j]? = some r → r.size ≤ 60) ∧ ∃ F G0, s' = nf 27 F G0 [(0, .t (.sl (sR l))), (1, .t (.i .i64 k)), (5, .t (.i .i64 i))] []) (k + 1) ?_ ?_
  · exact ⟨0, by omega, by omega, by omega, fun j r hj => absurd hj (Nat.not_lt_zero j), _, _, nf_of rfl ⟨rfl, rfl, rfl, trivial⟩ trivial⟩
  rintro m s' ⟨i, rfl, hi1, hi2, hno, F, G0, rfl⟩
  by_cases c1 : (i : Int) < l.length
  · have c1' := eq_true c1
    by_cases c2 : (i : Int) ≤ k
    · obtain ⟨r, hr⟩ : ∃ r, l[i]? = some r := ⟨_, List.getElem?_eq_getElem (by omega)⟩
      have hr' := sR_get hr
      have c2' := eq_true c2
      by_cases c3 : (60 : Int) < r.size
      · have hb : textsB l k = false := by
          unfold textsB
          rw [Bool.and_eq_false_iff]
          refine .inr ?_
          rw [List.all_eq_false]
          exact ⟨r, List.mem_of_getElem? hr, by simp; omega⟩
        obtain rfl : R = false := hR.trans hb
        have c3' := eq_true c3
        repeat' first | refine c_seq ?_ | refine c_block ?_ | refine c_reg' rfl fun K E hK hE => ?_ | ((first | refine r_opN fun κ η => ?_ | refine r_opG rfl fun κ η => ?_); simp only [go_sem, simprocAttr, Nat.le_refl, c1', c2', hr', c3']; (repeat refine ⟨by omega, ?_⟩); refine η _ ?_; clear η κ) | (refine r_nil (hK _ ?_); clear hE hK E K) | refine q_seq ?_ | refine c_cond true rfl (fun _ => ?_) (fun h => (by cases h)) | refine c_skip ?_ | refine c_ret ?_ | refine q_seqR ?_ | refine q_blkR ?_ | refine q_lpR ?_ | (refine q_ret ?_; refine q_r1 ?_; simp only [go_sem, simprocAttr, Nat.le_refl, c1', c2', hr', c3'])
      · have c3' := eq_false c3
        repeat' first | refine c_seq ?_ | refine c_block ?_ | refine c_reg' rfl fun K E hK hE => ?_ | ((first | refine r_opN fun κ η => ?_ | refine r_opG rfl fun κ η => ?_); simp only [go_sem, simprocAttr, Nat.le_refl, c1', c2', hr', c3']; (repeat refine ⟨by omega, ?_⟩); refine η _ ?_; clear η κ) | (refine r_nil (hK _ ?_); clear hE hK E K) | refine q_seq ?_ | refine c_cond true rfl (fun _ => ?_) (fun h => (by cases h)) | refine c_cond false rfl (fun h => (by cases h)) fun _ => ?_ | refine q_blk ?_ | refine c_skip ?_ | refine q_lpN ?_
        refine ⟨k + 1 - (i + 1), by omega, i + 1, rfl, by omega, by omega, fun j y hj hy => ?_, _, _, nf_of rfl ⟨rfl, rfl, rfl, trivial⟩ trivial⟩
        rcases Nat.lt_or_eq_of_le (Nat.lt_succ_iff.1 hj) with h | rfl
        · exact hno j y h hy
        · rw [hr] at hy
          cases hy
          omega
    · have hb : textsB l k = false := by
        unfold textsB
        rw [decide_eq_false (by omega)]
        rfl
      have c4 : ((l.length : Int) ≤ k) = False := eq_false (by omega)
      obtain rfl : R = false := hR.trans hb
      have c2' := eq_false c2
      repeat' first | refine c_seq ?_ | refine c_reg' rfl fun K E hK hE => ?_ | ((first | refine r_opN fun κ η => ?_ | refine r_opG rfl fun κ η => ?_); simp only [go_sem, simprocAttr, Nat.le_refl, c1', c2', c4]; refine η _ ?_; clear η κ) | (refine r_nil (hK _ ?_); clear hE hK E K) | refine q_seq ?_ | refine c_cond false rfl (fun h => (by cases h)) fun _ => ?_ | refine c_exit ?_ | refine c_ret ?_ | refine q_seqE ?_ | refine q_blkHit ?_ | refine q_lpE ?_ | (refine q_ret ?_; refine q_r1 ?_; simp only [go_sem, simprocAttr, Nat.le_refl, c1', c2', c4])
  · have hall : l.all (fun r => decide (r.size ≤ 60)) = true := by
      rw [List.all_eq_true]
      intro r hr
      obtain ⟨j, hj⟩ := List.getElem?_of_mem hr
      have := (List.getElem?_eq_some_iff.1 hj).1
      exact decide_eq_true (hno j r (by omega) hj)
    have hb : textsB l k = decide ((l.length : Int) ≤ k) := by
      unfold textsB
      rw [hall, Bool.and_true, decide_eq_decide]
      omega
    obtain rfl : R = decide ((l.length : Int) ≤ k) := hR.trans hb
    have c1' := eq_false c1
    repeat' first | refine c_seq ?_ | refine c_reg' rfl fun K E hK hE => ?_ | ((first | refine r_opN fun κ η => ?_ | refine r_opG rfl fun κ η => ?_); simp only [go_sem, simprocAttr, Nat.le_refl, c1']; refine η _ ?_; clear η κ) | (refine r_nil (hK _ ?_); clear hE hK E K) | refine q_seq ?_ | refine c_cond false rfl (fun h => (by cases h)) fun _ => ?_ | refine c_exit ?_ | refine c_ret ?_ | refine q_seqE ?_ | refine q_blkHit ?_ | refine q_lpE ?_ | (refine q_ret ?_; refine q_r1 ?_; simp only [go_sem, simprocAttr, Nat.le_refl, c1'])
def fewG (g : Gt) : Bool := textsB g.ins 12 && (textsB (g.rows.map mk) 140 && decide (g.name.size ≤ 60))
def fewL (x : La) : Bool := decide (x.name.size ≤ 60) && decide (x.next.size ≤ 60)
def fewC (c : Ci) : Bool := (c.gts.all fewG && c.las.all fewL) && (textsB c.ins 210 && (textsB c.outs 210 && (decide (c.gts.length ≤ 210) && decide (c.las.length ≤ 210))))
set_option maxHeartbeats 2000000 in
theorem fewGate_ct (g : Gt) : Ct Tryd.prog Hy 34 [.ag (gT g)] [.b (fewG g)] := by
  have h1 := texts_ct Hy g.ins 12 (by decide)
  have h2 := texts_ct Hy (g.rows.map mk) 140 (by decide)
  rw [← rR_sR] at h2
  have hn : decide ((g.name.size : Int) ≤ 60) = decide (g.name.size ≤ 60) := decide_eq_decide.2 (by omega)
  unfold fewG
  generalize textsB g.ins 12 = b1 at *
  generalize textsB (g.rows.map mk) 140 = b2 at *
  rw [← hn]
  obtain ⟨name, op, ins, rows, off⟩ := g
  simp only at h1 h2 ⊢
  cases b1 <;> cases b2 <;>
  · refine ct_of (cls := _root_.id) tt_ok follows_ Tryd.func34 rfl (by decide) (Nat.le_of_ble_eq_true rfl) ?_
    rw [show Tryd.f34.ntmps = 21 from rfl, s0_nf]
    simp only [List.zipIdx_cons, List.zipIdx_nil, List.map_cons, List.map_nil, Nat.reduceAdd, gT]
    repeat' first | refine c_seq ?_ | refine c_reg' rfl fun K E hK hE => ?_ | (refine r_opN fun κ η => ?_; simp only [go_sem, simprocAttr, Nat.le_refl]; (repeat refine ⟨by omega, ?_⟩); refine η _ ?_; clear η κ) | (refine r_nil (hK _ ?_); clear hE hK E K) | refine q_seq ?_
    refine r_opN fun κ η => ?_; simp only [go_sem, simprocAttr, Nat.le_refl]; refine ⟨_, h1, ?_⟩; simp only [go_sem, simprocAttr, Nat.le_refl]; refine η _ ?_; clear η κ
    repeat' first | refine c_seq ?_ | refine c_reg' rfl fun K E hK hE => ?_ | (refine r_opN fun κ η => ?_; simp only [go_sem, simprocAttr, Nat.le_refl]; (repeat refine ⟨by omega, ?_⟩); refine η _ ?_; clear η κ) | (refine r_nil (hK _ ?_); clear hE hK E K) | refine q_seq ?_
    refine r_opN fun κ η => ?_; simp only [go_sem, simprocAttr, Nat.le_refl]; refine ⟨_, h2, ?_⟩; simp only [go_sem, simprocAttr, Nat.le_refl]; refine η _ ?_; clear η κ
    repeat' first | refine c_seq ?_ | refine c_reg' rfl fun K E hK hE => ?_ | ((first | refine r_opN fun κ η => ?_ | refine r_opG rfl fun κ η => ?_); simp only [go_sem, simprocAttr, Nat.le_refl]; (repeat refine ⟨by omega, ?_⟩); refine η _ ?_; clear η κ) | (refine r_nil (hK _ ?_); clear hE hK E K) | refine q_seq ?_ | refine c_ret ?_ | (refine q_ret ?_; refine q_r1 ?_; simp only [go_sem, simprocAttr, Nat.le_refl])
theorem all_of {α : Type} {p : α → Bool} {l : List α} {i : Nat} (h : ∀ (j : Nat) r, j < i → l[j]? = some r → p r = true) (hi : l.length ≤ i) : l.all p = true := by
  rw [List.all_eq_true]
  intro r hr
  obtain ⟨j, hj⟩ := List.getElem?_of_mem hr
  exact h j r (by have := (List.getElem?_eq_some_iff.1 hj).1; omega) hj
theorem all_no {α : Type} {p : α → Bool} {l : List α} {r : α} (hr : r ∈ l) (h : p r = false) : l.all p = false := by
  rw [List.all_eq_false]
  exact ⟨r, hr, by rw [h]; decide⟩
theorem all_snoc {α : Type} {p : α → Bool} {l : List α} {i : Nat} {x : α} (h : ∀ (j : Nat) r, j < i → l[j]? = some r → p r = true) (hx : l[i]? = some x) (hp : p x = true) : ∀ (j : Nat) r, j < i + 1 → l[j]? = some r → p r = true := fun j r hj hr => by
  rcases Nat.lt_or_eq_of_le (Nat.lt_succ_iff.1 hj) with h1 | rfl
  · exact h j r h1 hr
  · rw [hx] at hr
    cases hr
    exact hp
set_option maxHeartbeats 4000000 in
theorem few_ct (c : Ci) : Ct Tryd.prog Hy 28 [.ag (cE c)] [.b (fewC c)] := by
  have hi := texts_ct Hy c.ins 210 (by decide)
  have ho := texts_ct Hy c.outs 210 (by decide)
  have hg := fun g => fewGate_ct Hy g
  obtain ⟨R, hR⟩ : ∃ R, R = fewC c := ⟨_, rfl⟩
  rw [← hR]
  unfold fewC at hR
  obtain ⟨ins, outs, las, gts⟩ := c
  simp only at hi ho hR
  refine ct_of (cls := _root_.id) tt_ok follows_ Tryd.func28 rfl (by decide) (Nat.le_of_ble_eq_true rfl) ?_
  rw [show Tryd.f28.ntmps = 78 from rfl, s0_nf]
  simp only [List.zipIdx_cons, List.zipIdx_nil, List.map_cons, List.map_nil, Nat.reduceAdd, cE]
  refine c_seq ?_
  repeat' first | refine c_reg' rfl fun K E hK hE => ?_ | (refine r_opN fun κ η => ?_; simp only [go_sem, simprocAttr, Nat.le_refl]; refine η _ ?_; clear η κ) | (refine r_nil (hK _ ?_); clear hE hK E K) | refine q_seq ?_
  refine c_cut (fun s => ∃ F G1, s = nf 78 F G1 [(1, .ptr 1 1 0)] [] ∧ G1 1 = ⟨1, .cells 26 [.t (.sl (sR ins)), .t (.sl (sR outs)), .t (.sl (lsR las)), .t (.sl (gsR gts))]⟩ ∧ (gts.length ≤ 210 → gts.all fewG = true)) ?_ ?_
  rotate_left
  · intro N hN
    have go : True := trivial
    · repeat' first | refine c_seq ?_ | refine c_block ?_ | refine c_reg' rfl fun K E hK hE => ?_ | (refine r_opN fun κ η => ?_; simp only [go_sem, simprocAttr, Nat.le_refl]; refine η _ ?_; clear η κ) | (refine r_nil (hK _ ?_); clear hE hK E K) | refine q_seq ?_
      refine c_loop (fun m s' => ∃ i : Nat, m = 211 - i ∧ i ≤ 211 ∧ i ≤ gts.length ∧ (∀ (j : Nat) r, j < i → gts[j]? = some r → fewG r = true) ∧ ∃ F G0, s' = nf 78 F G0 [(1, .ptr 1 1 0), (3, .t (.i .i64 i))] [] ∧ G0 1 = ⟨1, .cells 26 [.t (.sl (sR ins)), .t (.sl (sR outs)), .t (.sl (lsR las)), .t (.sl (gsR gts))]⟩) 211 ?_ ?_
      · exact ⟨0, by omega, by omega, by omega, fun j r hj => absurd hj (Nat.not_lt_zero j), _, _, nf_of rfl ⟨rfl, rfl, trivial⟩ trivial, rfl⟩
      rintro m s' ⟨i, rfl, hi1, hi2, hno, F, G0, rfl, b1⟩
      by_cases c1 : (i : Int) < gts.length
      · have c1' := eq_true c1
        by_cases c2 : (i : Int) ≤ 210
        · have c2' := eq_true c2
          obtain ⟨x, hx⟩ : ∃ x, gts[i]? = some x := ⟨_, List.getElem?_eq_getElem (by omega)⟩
          have hx' := gsR_get hx
          have hgx := hg x
          simp only [gT] at hgx
          cases hf : fewG x with
          | false =>
            obtain rfl : R = false := by rw [hR, all_no (List.mem_of_getElem? hx) hf]; rfl
            rw [hf] at hgx
            repeat' first | refine c_seq ?_ | refine c_block ?_ | refine c_reg' rfl fun K E hK hE => ?_ | ((first | refine r_opN fun κ η => ?_ | refine r_opG rfl fun κ η => ?_); simp only [go_sem, simprocAttr, Nat.le_refl, b1, c1', c2', hx']; (repeat refine ⟨by omega, ?_⟩); refine η _ ?_; clear η κ) | (refine r_nil (hK _ ?_); clear hE hK E K) | refine q_seq ?_ | refine c_cond true rfl (fun _ => ?_) (fun h => (by cases h)) | refine c_skip ?_
            refine r_opN fun κ η => ?_; simp only [go_sem, simprocAttr, Nat.le_refl]; refine ⟨_, hgx, ?_⟩; simp only [go_sem, simprocAttr, Nat.le_refl]; refine η _ ?_; clear η κ
            repeat' first | refine c_seq ?_ | refine c_reg' rfl fun K E hK hE => ?_ | (refine r_opN fun κ η => ?_; simp only [go_sem, simprocAttr, Nat.le_refl]; refine η _ ?_; clear η κ) | (refine r_nil (hK _ ?_); clear hE hK E K) | refine q_seq ?_ | refine c_cond true rfl (fun _ => ?_) (fun h => (by cases h)) | refine c_ret ?_ | refine q_seqR ?_ | refine q_blkR ?_ | refine q_lpR ?_ | (refine q_ret ?_; refine q_r1 ?_; simp only [go_sem, simprocAttr, Nat.le_refl])
          | true =>
            rw [hf] at hgx
            repeat' first | refine c_seq ?_ | refine c_block ?_ | refine c_reg' rfl fun K E hK hE => ?_ | ((first | refine r_opN fun κ η => ?_ | refine r_opG rfl fun κ η => ?_); simp only [go_sem, simprocAttr, Nat.le_refl, b1, c1', c2', hx']; (repeat refine ⟨by omega, ?_⟩); refine η _ ?_; clear η κ) | (refine r_nil (hK _ ?_); clear hE hK E K) | refine q_seq ?_ | refine c_cond true rfl (fun _ => ?_) (fun h => (by cases h)) | refine c_skip ?_
            refine r_opN fun κ η => ?_; simp only [go_sem, simprocAttr, Nat.le_refl]; refine ⟨_, hgx, ?_⟩; simp only [go_sem, simprocAttr, Nat.le_refl]; refine η _ ?_; clear η κ
            repeat' first | refine c_seq ?_ | refine c_reg' rfl fun K E hK hE => ?_ | (refine r_opN fun κ η => ?_; simp only [go_sem, simprocAttr, Nat.le_refl]; (repeat refine ⟨by omega, ?_⟩); refine η _ ?_; clear η κ) | (refine r_nil (hK _ ?_); clear hE hK E K) | refine q_seq ?_ | refine c_cond false rfl (fun h => (by cases h)) fun _ => ?_ | refine q_blk ?_ | refine c_skip ?_ | refine q_lpN ?_
            exact ⟨211 - (i + 1), by omega, i + 1, rfl, by omega, by omega, all_snoc hno hx hf, _, _, nf_of rfl ⟨rfl, rfl, trivial⟩ trivial, b1⟩
        · have c2' := eq_false c2
          repeat' first | refine c_seq ?_ | refine c_reg' rfl fun K E hK hE => ?_ | ((first | refine r_opN fun κ η => ?_ | refine r_opG rfl fun κ η => ?_); simp only [go_sem, simprocAttr, Nat.le_refl, b1, c1', c2']; (repeat refine ⟨by omega, ?_⟩); refine η _ ?_; clear η κ) | (refine r_nil (hK _ ?_); clear hE hK E K) | refine q_seq ?_ | refine c_cond false rfl (fun h => (by cases h)) fun _ => ?_ | refine c_exit ?_ | refine q_seqE ?_ | refine q_blkHit ?_ | refine q_lpE ?_
          exact hN _ ⟨_, _, nf_of rfl ⟨rfl, trivial⟩ trivial, b1, fun h => absurd h (by omega)⟩
      · have c1' := eq_false c1
        repeat' first | refine c_seq ?_ | refine c_reg' rfl fun K E hK hE => ?_ | ((first | refine r_opN fun κ η => ?_ | refine r_opG rfl fun κ η => ?_); simp only [go_sem, simprocAttr, Nat.le_refl, b1, c1']; (repeat refine ⟨by omega, ?_⟩); refine η _ ?_; clear η κ) | (refine r_nil (hK _ ?_); clear hE hK E K) | refine q_seq ?_ | refine c_cond false rfl (fun h => (by cases h)) fun _ => ?_ | refine c_exit ?_ | refine q_seqE ?_ | refine q_blkHit ?_ | refine q_lpE ?_
        exact hN _ ⟨_, _, nf_of rfl ⟨rfl, trivial⟩ trivial, b1, fun _ => all_of hno (by omega)⟩
  rintro s ⟨F, G1, rfl, b1, hga⟩
  refine c_cut (fun s => ∃ F G1, s = nf 78 F G1 [(1, .ptr 1 1 0)] [] ∧ G1 1 = ⟨1, .cells 26 [.t (.sl (sR ins)), .t (.sl (sR outs)), .t (.sl (lsR las)), .t (.sl (gsR gts))]⟩ ∧ (las.length ≤ 210 → las.all fewL = true)) ?_ ?_
  rotate_left
  · intro N hN
    have b0 := b1
    · repeat' first | refine c_seq ?_ | refine c_block ?_ | refine c_reg' rfl fun K E hK hE => ?_ | (refine r_opN fun κ η => ?_; simp only [go_sem, simprocAttr, Nat.le_refl]; refine η _ ?_; clear η κ) | (refine r_nil (hK _ ?_); clear hE hK E K) | refine q_seq ?_
      refine c_loop (fun m s' => ∃ i : Nat, m = 211 - i ∧ i ≤ 211 ∧ i ≤ las.length ∧ (∀ (j : Nat) r, j < i → las[j]? = some r → fewL r = true) ∧ ∃ F G0, s' = nf 78 F G0 [(1, .ptr 1 1 0), (5, .t (.i .i64 i))] [] ∧ G0 1 = ⟨1, .cells 26 [.t (.sl (sR ins)), .t (.sl (sR outs)), .t (.sl (lsR las)), .t (.sl (gsR gts))]⟩) 211 ?_ ?_
      · exact ⟨0, by omega, by omega, by omega, fun j r hj => absurd hj (Nat.not_lt_zero j), _, _, nf_of rfl ⟨rfl, rfl, trivial⟩ trivial, b0⟩
      rintro m s' ⟨i, rfl, hi1, hi2, hno, F, G0, rfl, b1⟩
      by_cases c1 : (i : Int) < las.length
      · have c1' := eq_true c1
        by_cases c2 : (i : Int) ≤ 210
        · have c2' := eq_true c2
          obtain ⟨x, hx⟩ : ∃ x, las[i]? = some x := ⟨_, List.getElem?_eq_getElem (by omega)⟩
          have hx' := lsR_get hx
          by_cases d1 : (60 : Int) < x.name.size
          · have hf : fewL x = false := by unfold fewL; rw [decide_eq_false (by omega)]; rfl
            obtain rfl : R = false := by rw [hR, all_no (List.mem_of_getElem? hx) hf, Bool.and_false]; rfl
            have d1' := eq_true d1
            repeat' first | refine c_seq ?_ | refine c_block ?_ | refine c_reg' rfl fun K E hK hE => ?_ | ((first | refine r_opN fun κ η => ?_ | refine r_opG rfl fun κ η => ?_); simp only [go_sem, simprocAttr, Nat.le_refl, b1, c1', c2', hx', d1']; (repeat refine ⟨by omega, ?_⟩); refine η _ ?_; clear η κ) | (refine r_nil (hK _ ?_); clear hE hK E K) | refine q_seq ?_ | refine c_cond true rfl (fun _ => ?_) (fun h => (by cases h)) | refine c_skip ?_ | refine c_ret ?_ | refine q_seqR ?_ | refine q_blkR ?_ | refine q_lpR ?_ | (refine q_ret ?_; refine q_r1 ?_; simp only [go_sem, simprocAttr, Nat.le_refl, b1, c1', c2', hx', d1'])
          by_cases d2 : (60 : Int) < x.next.size
          · have hf : fewL x = false := by unfold fewL; rw [decide_eq_false (p := x.next.size ≤ 60) (by omega), Bool.and_false]
            obtain rfl : R = false := by rw [hR, all_no (List.mem_of_getElem? hx) hf, Bool.and_false]; rfl
            have d1' := eq_false d1
            have d2' := eq_true d2
            repeat' first | refine c_seq ?_ | refine c_block ?_ | refine c_reg' rfl fun K E hK hE => ?_ | ((first | refine r_opN fun κ η => ?_ | refine r_opG rfl fun κ η => ?_); simp only [go_sem, simprocAttr, Nat.le_refl, b1, c1', c2', hx', d1', d2']; (repeat refine ⟨by omega, ?_⟩); refine η _ ?_; clear η κ) | (refine r_nil (hK _ ?_); clear hE hK E K) | refine q_seq ?_ | refine c_cond true rfl (fun _ => ?_) (fun h => (by cases h)) | refine c_skip ?_ | refine c_ret ?_ | refine q_seqR ?_ | refine q_blkR ?_ | refine q_lpR ?_ | (refine q_ret ?_; refine q_r1 ?_; simp only [go_sem, simprocAttr, Nat.le_refl, b1, c1', c2', hx', d1', d2'])
          have d1' := eq_false d1
          have d2' := eq_false d2
          have hf : fewL x = true := by unfold fewL; rw [decide_eq_true (by omega), decide_eq_true (by omega)]; rfl
          repeat' first | refine c_seq ?_ | refine c_block ?_ | refine c_reg' rfl fun K E hK hE => ?_ | ((first | refine r_opN fun κ η => ?_ | refine r_opG rfl fun κ η => ?_); simp only [go_sem, simprocAttr, Nat.le_refl, b1, c1', c2', hx', d1', d2']; (repeat refine ⟨by omega, ?_⟩); refine η _ ?_; clear η κ) | (refine r_nil (hK _ ?_); clear hE hK E K) | refine q_seq ?_ | refine c_cond true rfl (fun _ => ?_) (fun h => (by cases h)) | refine c_cond false rfl (fun h => (by cases h)) fun _ => ?_ | refine q_blk ?_ | refine c_skip ?_ | refine q_lpN ?_
          exact ⟨211 - (i + 1), by omega, i + 1, rfl, by omega, by omega, all_snoc hno hx hf, _, _, nf_of rfl ⟨rfl, rfl, trivial⟩ trivial, b1⟩
        · have c2' := eq_false c2
          repeat' first | refine c_seq ?_ | refine c_reg' rfl fun K E hK hE => ?_ | ((first | refine r_opN fun κ η => ?_ | refine r_opG rfl fun κ η => ?_); simp only [go_sem, simprocAttr, Nat.le_refl, b1, c1', c2']; (repeat refine ⟨by omega, ?_⟩); refine η _ ?_; clear η κ) | (refine r_nil (hK _ ?_); clear hE hK E K) | refine q_seq ?_ | refine c_cond false rfl (fun h => (by cases h)) fun _ => ?_ | refine c_exit ?_ | refine q_seqE ?_ | refine q_blkHit ?_ | refine q_lpE ?_
          exact hN _ ⟨_, _, nf_of rfl ⟨rfl, trivial⟩ trivial, b1, fun h => absurd h (by omega)⟩
      · have c1' := eq_false c1
        repeat' first | refine c_seq ?_ | refine c_reg' rfl fun K E hK hE => ?_ | ((first | refine r_opN fun κ η => ?_ | refine r_opG rfl fun κ η => ?_); simp only [go_sem, simprocAttr, Nat.le_refl, b1, c1']; (repeat refine ⟨by omega, ?_⟩); refine η _ ?_; clear η κ) | (refine r_nil (hK _ ?_); clear hE hK E K) | refine q_seq ?_ | refine c_cond false rfl (fun h => (by cases h)) fun _ => ?_ | refine c_exit ?_ | refine q_seqE ?_ | refine q_blkHit ?_ | refine q_lpE ?_
        exact hN _ ⟨_, _, nf_of rfl ⟨rfl, trivial⟩ trivial, b1, fun _ => all_of hno (by omega)⟩
  clear b1
  rintro s ⟨F, G1, rfl, b1, hla⟩
  have hR2 : R = (textsB ins 210 && (textsB outs 210 && (decide ((gts.length : Int) ≤ 210) && decide ((las.length : Int) ≤ 210)))) := by
    rw [hR]
    by_cases e1 : gts.length ≤ 210
    · by_cases e2 : las.length ≤ 210
      · rw [hga e1, hla e2, decide_eq_true e1, decide_eq_true e2, decide_eq_true (p := (gts.length : Int) ≤ 210) (by omega), decide_eq_true (p := (las.length : Int) ≤ 210) (by omega)]
        simp
      · rw [decide_eq_false e2, decide_eq_false (p := (las.length : Int) ≤ 210) (by omega)]
        simp
    · rw [decide_eq_false e1, decide_eq_false (p := (gts.length : Int) ≤ 210) (by omega)]
      simp
  clear hR
  generalize textsB ins 210 = t1 at *
  generalize textsB outs 210 = t2 at *
  by_cases e1 : (gts.length : Int) ≤ 210
  · by_cases e2 : (las.length : Int) ≤ 210
    · rw [decide_eq_true e1, decide_eq_true e2] at hR2
      have e1' := eq_true e1
      have e2' := eq_true e2
      subst hR2
      cases t1 <;> cases t2 <;>
      · repeat' first | refine c_seq ?_ | refine c_reg' rfl fun K E hK hE => ?_ | (refine r_opN fun κ η => ?_; simp only [go_sem, simprocAttr, Nat.le_refl, b1, e1', e2']; (repeat refine ⟨by omega, ?_⟩); refine η _ ?_; clear η κ)
        refine r_opN fun κ η => ?_; simp only [go_sem, simprocAttr, Nat.le_refl]; refine ⟨_, hi, ?_⟩; simp only [go_sem, simprocAttr, Nat.le_refl]; refine η _ ?_; clear η κ
        repeat' first | refine c_seq ?_ | refine c_reg' rfl fun K E hK hE => ?_ | (refine r_opN fun κ η => ?_; simp only [go_sem, simprocAttr, Nat.le_refl, b1, e1', e2']; (repeat refine ⟨by omega, ?_⟩); refine η _ ?_; clear η κ) | (refine r_nil (hK _ ?_); clear hE hK E K) | refine q_seq ?_
        refine r_opN fun κ η => ?_; simp only [go_sem, simprocAttr, Nat.le_refl]; refine ⟨_, ho, ?_⟩; simp only [go_sem, simprocAttr, Nat.le_refl]; refine η _ ?_; clear η κ
        repeat' first | refine c_seq ?_ | refine c_reg' rfl fun K E hK hE => ?_ | ((first | refine r_opN fun κ η => ?_ | refine r_opG rfl fun κ η => ?_); simp only [go_sem, simprocAttr, Nat.le_refl, b1, e1', e2']; (repeat refine ⟨by omega, ?_⟩); refine η _ ?_; clear η κ) | (refine r_nil (hK _ ?_); clear hE hK E K) | refine q_seq ?_ | refine c_ret ?_ | (refine q_ret ?_; refine q_r1 ?_; simp only [go_sem, simprocAttr, Nat.le_refl, b1, e1', e2'])
    · rw [decide_eq_true e1, decide_eq_false e2] at hR2
      have e1' := eq_true e1
      have e2' := eq_false e2
      subst hR2
      cases t1 <;> cases t2 <;>
      · repeat' first | refine c_seq ?_ | refine c_reg' rfl fun K E hK hE => ?_ | (refine r_opN fun κ η => ?_; simp only [go_sem, simprocAttr, Nat.le_refl, b1, e1', e2']; (repeat refine ⟨by omega, ?_⟩); refine η _ ?_; clear η κ)
        refine r_opN fun κ η => ?_; simp only [go_sem, simprocAttr, Nat.le_refl]; refine ⟨_, hi, ?_⟩; simp only [go_sem, simprocAttr, Nat.le_refl]; refine η _ ?_; clear η κ
        repeat' first | refine c_seq ?_ | refine c_reg' rfl fun K E hK hE => ?_ | (refine r_opN fun κ η => ?_; simp only [go_sem, simprocAttr, Nat.le_refl, b1, e1', e2']; (repeat refine ⟨by omega, ?_⟩); refine η _ ?_; clear η κ) | (refine r_nil (hK _ ?_); clear hE hK E K) | refine q_seq ?_
        refine r_opN fun κ η => ?_; simp only [go_sem, simprocAttr, Nat.le_refl]; refine ⟨_, ho, ?_⟩; simp only [go_sem, simprocAttr, Nat.le_refl]; refine η _ ?_; clear η κ
        repeat' first | refine c_seq ?_ | refine c_reg' rfl fun K E hK hE => ?_ | ((first | refine r_opN fun κ η => ?_ | refine r_opG rfl fun κ η => ?_); simp only [go_sem, simprocAttr, Nat.le_refl, b1, e1', e2']; (repeat refine ⟨by omega, ?_⟩); refine η _ ?_; clear η κ) | (refine r_nil (hK _ ?_); clear hE hK E K) | refine q_seq ?_ | refine c_ret ?_ | (refine q_ret ?_; refine q_r1 ?_; simp only [go_sem, simprocAttr, Nat.le_refl, b1, e1', e2'])
  · rw [decide_eq_false e1, Bool.false_and, Bool.and_false, Bool.and_false] at hR2
    have e1' := eq_false e1
    subst hR2
    cases t1 <;> cases t2 <;>
    · repeat' first | refine c_seq ?_ | refine c_reg' rfl fun K E hK hE => ?_ | (refine r_opN fun κ η => ?_; simp only [go_sem, simprocAttr, Nat.le_refl, b1, e1']; (repeat refine ⟨by omega, ?_⟩); refine η _ ?_; clear η κ)
      refine r_opN fun κ η => ?_; simp only [go_sem, simprocAttr, Nat.le_refl]; refine ⟨_, hi, ?_⟩; simp only [go_sem, simprocAttr, Nat.le_refl]; refine η _ ?_; clear η κ
      repeat' first | refine c_seq ?_ | refine c_reg' rfl fun K E hK hE => ?_ | (refine r_opN fun κ η => ?_; simp only [go_sem, simprocAttr, Nat.le_refl, b1, e1']; (repeat refine ⟨by omega, ?_⟩); refine η _ ?_; clear η κ) | (refine r_nil (hK _ ?_); clear hE hK E K) | refine q_seq ?_
      refine r_opN fun κ η => ?_; simp only [go_sem, simprocAttr, Nat.le_refl]; refine ⟨_, ho, ?_⟩; simp only [go_sem, simprocAttr, Nat.le_refl]; refine η _ ?_; clear η κ
      repeat' first | refine c_seq ?_ | refine c_reg' rfl fun K E hK hE => ?_ | ((first | refine r_opN fun κ η => ?_ | refine r_opG rfl fun κ η => ?_); simp only [go_sem, simprocAttr, Nat.le_refl, b1, e1']; (repeat refine ⟨by omega, ?_⟩); refine η _ ?_; clear η κ) | (refine r_nil (hK _ ?_); clear hE hK E K) | refine q_seq ?_ | refine c_ret ?_ | (refine q_ret ?_; refine q_r1 ?_; simp only [go_sem, simprocAttr, Nat.le_refl, b1, e1'])
def littleC (c : Ci) : Bool := fewC c && (decide (c.gts.length ≤ 24) && (decide (c.ins.length ≤ 24) && decide (c.las.length ≤ 24)))
set_option maxHeartbeats 4000000 in
theorem little_ct (c : Ci) : Ct Tryd.prog Hy 13 [.ag (cE c)] [.b (littleC c)] := by
  have hf := few_ct Hy c
  have hR : littleC c = (fewC c && (decide ((c.gts.length : Int) ≤ 24) && (decide ((c.ins.length : Int) ≤ 24) && decide ((c.las.length : Int) ≤ 24)))) := by
    unfold littleC
    rw [decide_eq_decide.2 (show c.gts.length ≤ 24 ↔ (c.gts.length : Int) ≤ 24 by omega), decide_eq_decide.2 (show c.ins.length ≤ 24 ↔ (c.ins.length : Int) ≤ 24 by omega), decide_eq_decide.2 (show c.las.length ≤ 24 ↔ (c.las.length : Int) ≤ 24 by omega)]
  rw [hR]
  generalize fewC c = f1 at *
  obtain ⟨ins, outs, las, gts⟩ := c
  simp only [cE] at hf ⊢
  cases f1 <;> by_cases e1 : (gts.length : Int) ≤ 24 <;> by_cases e2 : (ins.length : Int) ≤ 24 <;> by_cases e3 : (las.length : Int) ≤ 24 <;>
  · simp only [e1, e2, e3, decide_true, decide_false, Bool.and_true, Bool.and_false]
    refine ct_of (cls := _root_.id) tt_ok follows_ Tryd.func13 rfl (by decide) (Nat.le_of_ble_eq_true rfl) ?_
    rw [show Tryd.f13.ntmps = 25 from rfl, s0_nf]
    simp only [List.zipIdx_cons, List.zipIdx_nil, List.map_cons, List.map_nil, Nat.reduceAdd]
    repeat' first | refine c_seq ?_ | refine c_reg' rfl fun K E hK hE => ?_ | (refine r_opN fun κ η => ?_; simp only [go_sem, simprocAttr, Nat.le_refl]; refine η _ ?_; clear η κ) | (refine r_nil (hK _ ?_); clear hE hK E K) | refine q_seq ?_
    refine r_opN fun κ η => ?_; simp only [go_sem, simprocAttr, Nat.le_refl]; refine ⟨_, hf, ?_⟩; simp only [go_sem, simprocAttr, Nat.le_refl]; refine η _ ?_; clear η κ
    repeat' first | refine c_seq ?_ | refine c_reg' rfl fun K E hK hE => ?_ | ((first | refine r_opN fun κ η => ?_ | refine r_opG rfl fun κ η => ?_); simp only [go_sem, simprocAttr, Nat.le_refl, e1, e2, e3]; (repeat refine ⟨by omega, ?_⟩); refine η _ ?_; clear η κ) | (refine r_nil (hK _ ?_); clear hE hK E K) | refine q_seq ?_ | refine c_ret ?_ | (refine q_ret ?_; refine q_r1 ?_; simp only [go_sem, simprocAttr, Nat.le_refl, e1, e2, e3])
end Go.Proofs.YtbhoeanfnbkenaaDoor
