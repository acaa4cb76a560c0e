import Derived.Test.YtbhoeanfnbkenaaDoorR39
import Derived.Test.YtbhoeanfnbkenaaDoorR40p
import Derived.Test.YtbhoeanfnbkenaaDoorR35
import Derived.Test.YtbhoeanfnbkenaaDoorR32
namespace Go.Proofs.YtbhoeanfnbkenaaDoor
open Go.RowKit
set_option maxRecDepth 100000
set_option linter.unusedSimpArgs false
variable (Hy : World → Prop)
attribute [local irreducible] runM runD cwp seqQ blkQ lpQ retQ asQ bdQ bdY retP endR preD retD
set_option maxHeartbeats 2000000 in
theorem indexS_ct (l : List ByteArray) (s : ByteArray) (hl : l.length ≤ 140737488355328) : Ct Tryd.prog Hy 62 [.sl (sR l), .s s] [.i .i64 (ixI (fun x => decide (x = s)) l)] := by
  obtain ⟨R, hR⟩ : ∃ R, R = ixI (fun x => decide (x = s)) l := ⟨_, rfl⟩
  rw [← hR]
  refine ct_of (cls := _root_.id) tt_ok follows_ Tryd.func62 rfl (by decide) (Nat.le_of_ble_eq_true rfl) ?_
  rw [show Tryd.f62.ntmps = 19 from rfl, s0_nf]
  simp only [List.zipIdx_cons, List.zipIdx_nil, List.map_cons, List.map_nil, Nat.reduceAdd]
  repeat' first | refine c_seq ?_ | refine c_block ?_ | refine c_reg' rfl fun K E hK hE => ?_ | (refine r_opN fun κ η => ?_; simp only [go_sem, simprocAttr, Nat.le_refl]; refine η _ ?_; clear η κ) | (refine r_nil (hK _ ?_); clear hE hK E K) | refine q_seq ?_
  refine c_loop (fun m s' => ∃ k : Nat, m = l.length - k ∧ k ≤ l.length ∧ (∀ (j : Nat) y, j < k → l[j]? = some y → decide (y = s) = false) ∧ ∃ F G0, s' = nf 19 F G0 [(0, .t (.sl (sR l))), (1, .t (.s s)), (7, .t (.i .i64 l.length)), (8, .t (.i .i64 k))] []) l.length ?_ ?_
  · exact ⟨0, by omega, by omega, fun j _ hj => absurd hj (Nat.not_lt_zero j), _, _, nf_of rfl ⟨rfl, rfl, rfl, rfl, trivial⟩ trivial⟩
  rintro m s' ⟨k, rfl, hk, hno, F, G0, rfl⟩
  by_cases hd : k < l.length
  · have hd' : ((k : Int) < l.length) = True := eq_true (by omega)
    obtain ⟨x, hx⟩ : ∃ x, l[k]? = some x := ⟨_, List.getElem?_eq_getElem (by omega)⟩
    have hx' := sR_get hx
    by_cases he : s = x
    · have he' := eq_true he
      obtain rfl : R = k := by rw [hR, ixI_some hx (decide_eq_true he.symm) hno]
      repeat' first | refine c_seq ?_ | refine c_block ?_ | refine c_reg' rfl fun K E hK hE => ?_ | (refine r_opN fun κ η => ?_; simp only [go_sem, simprocAttr, Nat.le_refl, hd', hx', he', decide_true]; (repeat refine ⟨by omega, ?_⟩); refine η _ ?_; clear η κ) | (refine r_nil (hK _ ?_); clear hE hK E K) | refine q_seq ?_ | refine c_cond true rfl (fun _ => ?_) (fun h => (by cases h)) | refine c_skip ?_ | refine c_ret ?_ | refine q_seqR ?_ | refine q_blkR ?_ | refine q_lpR ?_ | (refine q_ret ?_; refine q_r1 ?_; simp only [go_sem, simprocAttr, Nat.le_refl, hd', hx', he', decide_true])
    · have he' := eq_false he
      repeat' first | refine c_seq ?_ | refine c_block ?_ | refine c_reg' rfl fun K E hK hE => ?_ | (refine r_opN fun κ η => ?_; simp only [go_sem, simprocAttr, Nat.le_refl, hd', hx', he', decide_false]; (repeat refine ⟨by omega, ?_⟩); refine η _ ?_; clear η κ) | (refine r_nil (hK _ ?_); clear hE hK E K) | refine q_seq ?_ | refine c_cond true rfl (fun _ => ?_) (fun h => (by cases h)) | refine c_cond false rfl (fun h => (by cases h)) fun _ => ?_ | refine q_blk ?_ | refine c_skip ?_ | refine q_lpN ?_
      refine ⟨l.length - (k + 1), by omega, k + 1, rfl, by omega, fun j y hj hy => ?_, _, _, nf_of rfl ⟨rfl, rfl, rfl, rfl, trivial⟩ trivial⟩
      rcases Nat.lt_or_eq_of_le (Nat.lt_succ_iff.1 hj) with h | rfl
      · exact hno j y h hy
      · rw [hx] at hy
        cases hy
        exact decide_eq_false fun e => he e.symm
  · have hd' : ((k : Int) < l.length) = False := eq_false (by omega)
    obtain rfl : R = -1 := by rw [hR, ixI_none fun j y hj hy => hno j y (by omega) hy]
    repeat' first | refine c_seq ?_ | refine c_reg' rfl fun K E hK hE => ?_ | (refine r_opN fun κ η => ?_; simp only [go_sem, simprocAttr, Nat.le_refl, hd']; refine η _ ?_; clear η κ) | (refine r_nil (hK _ ?_); clear hE hK E K) | refine q_seq ?_ | refine c_cond false rfl (fun h => (by cases h)) fun _ => ?_ | refine c_exit ?_ | refine c_ret ?_ | refine q_seqE ?_ | refine q_blkHit ?_ | refine q_lpE ?_ | (refine q_ret ?_; refine q_r1 ?_; simp only [go_sem, simprocAttr, Nat.le_refl, hd'])
theorem place_ct (c : Ci) (s : ByteArray) (hc : CFit c) : Ct Tryd.prog Hy 30 [.ag (cE c), .s s] [.i .i64 (plC c s)] := by
  have h1 := nets_ct Hy c hc
  have h2 := indexS_ct Hy (netsC c) s (by rw [nets_le]; have := hc.ins; have := hc.las; have := hc.gts; omega)
  rw [show ixI (fun x => decide (x = s)) (netsC c) = plC c s from rfl] at h2
  generalize plC c s = P at *
  generalize netsC c = N at *
  obtain ⟨ins, outs, las, gts⟩ := c
  simp only [cE] at h1 ⊢
  refine ct_of (cls := _root_.id) tt_ok follows_ Tryd.func30 rfl (by decide) (Nat.le_of_ble_eq_true rfl) ?_
  rw [show Tryd.f30.ntmps = 9 from rfl, s0_nf]
  simp only [List.zipIdx_cons, List.zipIdx_nil, List.map_cons, List.map_nil, Nat.reduceAdd]
  repeat' first | refine c_seq ?_ | refine c_reg' rfl fun K E hK hE => ?_ | (refine r_opN fun κ η => ?_; simp only [go_sem, simprocAttr, Nat.le_refl]; refine η _ ?_; clear η κ) | (refine r_nil (hK _ ?_); clear hE hK E K) | refine q_seq ?_
  refine r_opN fun κ η => ?_; simp only [go_sem, simprocAttr, Nat.le_refl]; refine ⟨_, h1, ?_⟩; simp only [go_sem, simprocAttr, Nat.le_refl]; refine η _ ?_; clear η κ
  repeat' (refine r_opN fun κ η => ?_; simp only [go_sem, simprocAttr, Nat.le_refl]; refine η _ ?_; clear η κ)
  refine r_opN fun κ η => ?_; simp only [go_sem, simprocAttr, Nat.le_refl]; refine ⟨_, h2, ?_⟩; simp only [go_sem, simprocAttr, Nat.le_refl]; refine η _ ?_; clear η κ
  repeat' first | (refine r_opN fun κ η => ?_; simp only [go_sem, simprocAttr, Nat.le_refl]; refine η _ ?_; clear η κ) | (refine r_nil (hK _ ?_); clear hE hK E K) | refine q_seq ?_ | refine c_ret ?_ | (refine q_ret ?_; refine q_r1 ?_; simp only [go_sem, simprocAttr, Nat.le_refl])
end Go.Proofs.YtbhoeanfnbkenaaDoor
