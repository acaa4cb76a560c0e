import Derived.Test.YtbhoeanfnbkenaaDoorR2
import Derived.Test.YtbhoeanfnbkenaaDoorR10
import Derived.Test.YtbhoeanfnbkenaaDoorR12
namespace Go.Proofs.YtbhoeanfnbkenaaDoor
open Go.RowKit Go.WideMaps
set_option maxRecDepth 100000
set_option linter.unusedSimpArgs false
variable (Hy : World → Prop)
attribute [local irreducible] runM runD cwp seqQ blkQ lpQ retQ asQ bdQ bdY retP endR preD retD
end Go.Proofs.YtbhoeanfnbkenaaDoor
namespace Go.Proofs.YtbhoeanfnbkenaaDoor
open Go.RowKit Go.WideMaps
set_option maxRecDepth 100000
set_option linter.unusedSimpArgs false
variable (Hy : World → Prop)
attribute [local irreducible] runM runD cwp seqQ blkQ lpQ retQ asQ bdQ bdY retP endR preD retD
end Go.Proofs.YtbhoeanfnbkenaaDoor
namespace Go.Proofs.YtbhoeanfnbkenaaDoor
open Go.RowKit Go.WideMaps
set_option maxRecDepth 100000
set_option linter.unusedSimpArgs false
variable (Hy : World → Prop)
attribute [local irreducible] runM runD cwp seqQ blkQ lpQ retQ asQ bdQ bdY retP endR preD retD
theorem rR_sR (l : List Row) : rR l = sR (l.map mk) := by
  unfold rR sR
  rw [List.map_map]
  rfl
end Go.Proofs.YtbhoeanfnbkenaaDoor
namespace Go.Proofs.YtbhoeanfnbkenaaDoor
open Go.RowKit
set_option maxRecDepth 100000
set_option linter.unusedSimpArgs false
variable (Hy : World → Prop)
attribute [local irreducible] runM runD cwp seqQ blkQ lpQ retQ asQ bdQ bdY retP endR preD retD
def textsB (l : List ByteArray) (k : Nat) : Bool := decide (l.length ≤ k) && l.all fun s => decide (s.size ≤ 60)
set_option maxHeartbeats 2000000 in
theorem texts_ct (l : List ByteArray) (k : Nat) (hk : k ≤ 1000) : Ct Tryd.prog Hy 22 [.sl (sR l), .i .i64 k] [.b (textsB l k)] := by
  obtain ⟨R, hR⟩ : ∃ R, R = textsB l k := ⟨_, rfl⟩
  rw [← hR]
  refine ct_of (cls := _root_.id) tt_ok follows_ Tryd.func22 rfl (by decide) (Nat.le_of_ble_eq_true rfl) ?_
  rw [show Tryd.f22.ntmps = 27 from rfl, s0_nf]
  simp only [List.zipIdx_cons, List.zipIdx_nil, List.map_cons, List.map_nil, Nat.reduceAdd]
  repeat' first | refine c_seq ?_ | refine c_block ?_ | refine c_reg' rfl fun K E hK hE => ?_ | (refine r_opN fun κ η => ?_; simp only [go_sem, simprocAttr, Nat.le_refl]; refine η _ ?_; clear η κ) | (refine r_nil (hK _ ?_); clear hE hK E K) | refine q_seq ?_
  refine c_loop (fun m s' => ∃ i : Nat, m = k + 1 - i ∧ i ≤ k + 1 ∧ i ≤ l.length ∧ (∀ (j : Nat) r, j < i → l[j]? = some r → r.size ≤ 60) ∧ ∃ F G0, s' = nf 27 F G0 [(0, .t (.sl (sR l))), (1, .t (.i .i64 k)), (5, .t (.i .i64 i))] []) (k + 1) ?_ ?_
  · exact ⟨0, by omega, by omega, by omega, fun j r hj => absurd hj (Nat.not_lt_zero j), _, _, nf_of rfl ⟨rfl, rfl, rfl, trivial⟩ trivial⟩
  rintro m s' ⟨i, rfl, hi1, hi2, hno, F, G0, rfl⟩
  by_cases c1 : (i : Int) < l.length
  · have c1' := eq_true c1
    by_cases c2 : (i : Int) ≤ k
    · obtain ⟨r, hr⟩ : ∃ r, l[i]? = some r := ⟨_, List.getElem?_eq_getElem (by omega)⟩
      have hr' := sR_get hr
      have c2' := eq_true c2
      by_cases c3 : (60 : Int) < r.size
      · have hb : textsB l k = false := by
          unfold textsB
          rw [Bool.and_eq_false_iff]
          refine .inr ?_
          rw [List.all_eq_false]
          exact ⟨r, List.mem_of_getElem? hr, by simp; omega⟩
        obtain rfl : R = false := hR.trans hb
        have c3' := eq_true c3
        repeat' first | refine c_seq ?_ | refine c_block ?_ | refine c_reg' rfl fun K E hK hE => ?_ | ((first | refine r_opN fun κ η => ?_ | refine r_opG rfl fun κ η => ?_); simp only [go_sem, simprocAttr, Nat.le_refl, c1', c2', hr', c3']; (repeat refine ⟨by omega, ?_⟩); refine η _ ?_; clear η κ) | (refine r_nil (hK _ ?_); clear hE hK E K) | refine q_seq ?_ | refine c_cond true rfl (fun _ => ?_) (fun h => (by cases h)) | refine c_skip ?_ | refine c_ret ?_ | refine q_seqR ?_ | refine q_blkR ?_ | refine q_lpR ?_ | (refine q_ret ?_; refine q_r1 ?_; simp only [go_sem, simprocAttr, Nat.le_refl, c1', c2', hr', c3'])
      · have c3' := eq_false c3
        repeat' first | refine c_seq ?_ | refine c_block ?_ | refine c_reg' rfl fun K E hK hE => ?_ | ((first | refine r_opN fun κ η => ?_ | refine r_opG rfl fun κ η => ?_); simp only [go_sem, simprocAttr, Nat.le_refl, c1', c2', hr', c3']; (repeat refine ⟨by omega, ?_⟩); refine η _ ?_; clear η κ) | (refine r_nil (hK _ ?_); clear hE hK E K) | refine q_seq ?_ | refine c_cond true rfl (fun _ => ?_) (fun h => (by cases h)) | refine c_cond false rfl (fun h => (by cases h)) fun _ => ?_ | refine q_blk ?_ | refine c_skip ?_ | refine q_lpN ?_
        refine ⟨k + 1 - (i + 1), by omega, i + 1, rfl, by omega, by omega, fun j y hj hy => ?_, _, _, nf_of rfl ⟨rfl, rfl, rfl, trivial⟩ trivial⟩
        rcases Nat.lt_or_eq_of_le (Nat.lt_succ_iff.1 hj) with h | rfl
        · exact hno j y h hy
        · rw [hr] at hy
          cases hy
          omega
    · have hb : textsB l k = false := by
        unfold textsB
        rw [decide_eq_false (by omega)]
        rfl
      have c4 : ((l.length : Int) ≤ k) = False := eq_false (by omega)
      obtain rfl : R = false := hR.trans hb
      have c2' := eq_false c2
      repeat' first | refine c_seq ?_ | refine c_reg' rfl fun K E hK hE => ?_ | ((first | refine r_opN fun κ η => ?_ | refine r_opG rfl fun κ η => ?_); simp only [go_sem, simprocAttr, Nat.le_refl, c1', c2', c4]; refine η _ ?_; clear η κ) | (refine r_nil (hK _ ?_); clear hE hK E K) | refine q_seq ?_ | refine c_cond false rfl (fun h => (by cases h)) fun _ => ?_ | refine c_exit ?_ | refine c_ret ?_ | refine q_seqE ?_ | refine q_blkHit ?_ | refine q_lpE ?_ | (refine q_ret ?_; refine q_r1 ?_; simp only [go_sem, simprocAttr, Nat.le_refl, c1', c2', c4])
  · have hall : l.all (fun r => decide (r.size ≤ 60)) = true := by
      rw [List.all_eq_true]
      intro r hr
      obtain ⟨j, hj⟩ := List.getElem?_of_mem hr
      have := (List.getElem?_eq_some_iff.1 hj).1
      exact decide_eq_true (hno j r (by omega) hj)
    have hb : textsB l k = decide ((l.length : Int) ≤ k) := by
      unfold textsB
      rw [hall, Bool.and_true, decide_eq_decide]
      omega
    obtain rfl : R = decide ((l.length : Int) ≤ k) := hR.trans hb
    have c1' := eq_false c1
    repeat' first | refine c_seq ?_ | refine c_reg' rfl fun K E hK hE => ?_ | ((first | refine r_opN fun κ η => ?_ | refine r_opG rfl fun κ η => ?_); simp only [go_sem, simprocAttr, Nat.le_refl, c1']; refine η _ ?_; clear η κ) | (refine r_nil (hK _ ?_); clear hE hK E K) | refine q_seq ?_ | refine c_cond false rfl (fun h => (by cases h)) fun _ => ?_ | refine c_exit ?_ | refine c_ret ?_ | refine q_seqE ?_ | refine q_blkHit ?_ | refine q_lpE ?_ | (refine q_ret ?_; refine q_r1 ?_; simp only [go_sem, simprocAttr, Nat.le_refl, c1'])
def fewG (g : Gt) : Bool := textsB g.ins 12 && (textsB (g.rows.map mk) 140 && decide (g.name.size ≤ 60))
set_option maxHeartbeats 2000000 in
theorem fewGate_ct (g : Gt) : Ct Tryd.prog Hy 34 [.ag (gT g)] [.b (fewG g)] := by
  have h1 := texts_ct Hy g.ins 12 (by decide)
  have h2 := texts_ct Hy (g.rows.map mk) 140 (by decide)
  rw [← rR_sR] at h2
  have hn : decide ((g.name.size : Int) ≤ 60) = decide (g.name.size ≤ 60) := decide_eq_decide.2 (by omega)
  unfold fewG
  generalize textsB g.ins 12 = b1 at *
  generalize textsB (g.rows.map mk) 140 = b2 at *
  rw [← hn]
  obtain ⟨name, op, ins, rows, off⟩ := g
  simp only at h1 h2 ⊢
  cases b1 <;> cases b2 <;>
  · refine ct_of (cls := _root_.id) tt_ok follows_ Tryd.func34 rfl (by decide) (Nat.le_of_ble_eq_true rfl) ?_
    rw [show Tryd.f34.ntmps = 21 from rfl, s0_nf]
    simp only [List.zipIdx_cons, List.zipIdx_nil, List.map_cons, List.map_nil, Nat.reduceAdd, gT]
    repeat' first | refine c_seq ?_ | refine c_reg' rfl fun K E hK hE => ?_ | (refine r_opN fun κ η => ?_; simp only [go_sem, simprocAttr, Nat.le_refl]; (repeat refine ⟨by omega, ?_⟩); refine η _ ?_; clear η κ) | (refine r_nil (hK _ ?_); clear hE hK E K) | refine q_seq ?_
    refine r_opN fun κ η => ?_; simp only [go_sem, simprocAttr, Nat.le_refl]; refine ⟨_, h1, ?_⟩; simp only [go_sem, simprocAttr, Nat.le_refl]; refine η _ ?_; clear η κ
    repeat' first | refine c_seq ?_ | refine c_reg' rfl fun K E hK hE => ?_ | (refine r_opN fun κ η => ?_; simp only [go_sem, simprocAttr, Nat.le_refl]; (repeat refine ⟨by omega, ?_⟩); refine η _ ?_; clear η κ) | (refine r_nil (hK _ ?_); clear hE hK E K) | refine q_seq ?_
    refine r_opN fun κ η => ?_; simp only [go_sem, simprocAttr, Nat.le_refl]; refine ⟨_, h2, ?_⟩; simp only [go_sem, simprocAttr, Nat.le_refl]; refine η _ ?_; clear η κ
    repeat' first | refine c_seq ?_ | refine c_reg' rfl fun K E hK hE => ?_ | ((first | refine r_opN fun κ η => ?_ | refine r_opG rfl fun κ η => ?_); simp only [go_sem, simprocAttr, Nat.le_refl]; (repeat refine ⟨by omega, ?_⟩); refine η _ ?_; clear η κ) | (refine r_nil (hK _ ?_); clear hE hK E K) | refine q_seq ?_ | refine c_ret ?_ | (refine q_ret ?_; refine q_r1 ?_; simp only [go_sem, simprocAttr, Nat.le_refl])
end Go.Proofs.YtbhoeanfnbkenaaDoor
