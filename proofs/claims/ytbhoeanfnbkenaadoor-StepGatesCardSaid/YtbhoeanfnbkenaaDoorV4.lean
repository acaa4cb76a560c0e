import Derived.Test.YtbhoeanfnbkenaaDoorV3
namespace Go.Proofs.YtbhoeanfnbkenaaDoor
open Go.RowKit
set_option maxRecDepth 100000
set_option linter.unusedSimpArgs false
variable (Hy : World → Prop)
attribute [local irreducible] runM runD cwp seqQ blkQ lpQ retQ asQ bdQ bdY retP endR preD retD
theorem oddR_mem {n w m : Nat} {r : Row} (h : r ∈ oddR n w m) : r.length = n := by
  unfold oddR at h
  obtain ⟨k, _, rfl⟩ := List.mem_map.1 h
  exact preB_len _ _ _
theorem rowsG_ok {g : Gt} {ins : List Bool} (h : okG g ins = true) (hrl : g.rows.length ≤ 1000000) : (rowsG g ins.length).1.length ≤ 1000000 ∧ ∀ r ∈ (rowsG g ins.length).1, r.length = ins.length := by
  have har := okG_ar h
  have ho := of_decide_eq_true (okG_ok h).1
  by_cases h10 : g.op = 10
  · unfold rowsG
    rw [if_pos h10]
    exact ⟨hrl, ((okG_ok h).2.2 h10).2⟩
  unfold rowsG
  rw [if_neg h10]
  generalize g.op = op at *
  have hcase : op = 0 ∨ op = 1 ∨ op = 2 ∨ op = 3 ∨ op = 4 ∨ op = 5 ∨ op = 6 ∨ op = 7 ∨ op = 8 ∨ op = 9 := by omega
  have one : ∀ r0 : Row, r0.length = ins.length → [r0].length ≤ 1000000 ∧ ∀ r ∈ [r0], r.length = ins.length := fun r0 h0 => ⟨by show 1 ≤ 1000000; decide, fun r hr => by rw [List.mem_singleton.1 hr]; exact h0⟩
  have odd : ∀ w, ins.length ≤ 8 → (oddR ins.length w (2 ^ ins.length)).length ≤ 1000000 ∧ ∀ r ∈ oddR ins.length w (2 ^ ins.length), r.length = ins.length := fun w h8 => ⟨by
    have h1 := oddR_len ins.length w (2 ^ ins.length)
    have h2 : 2 ^ ins.length ≤ 2 ^ 8 := Nat.pow_le_pow_right (by decide) h8
    rw [rR_len] at h1
    omega, fun r hr => oddR_mem hr⟩
  rcases hcase with rfl | rfl | rfl | rfl | rfl | rfl | rfl | rfl | rfl | rfl
  · exact ⟨by show 0 ≤ 1000000; decide, fun r hr => by cases hr⟩
  · have hn : (0 : Int) ≤ ins.length ∧ (ins.length : Int) ≤ 0 := har
    exact one [] (by show 0 = _; omega)
  · have hn : (1 : Int) ≤ ins.length ∧ (ins.length : Int) ≤ 1 := har
    exact one [49] (by show 1 = _; omega)
  · have hn : (1 : Int) ≤ ins.length ∧ (ins.length : Int) ≤ 1 := har
    exact one [48] (by show 1 = _; omega)
  · exact one _ (List.length_replicate ..)
  · exact one _ (List.length_replicate ..)
  · exact one _ (List.length_replicate ..)
  · exact one _ (List.length_replicate ..)
  · have hn : (2 : Int) ≤ ins.length ∧ (ins.length : Int) ≤ 8 := har
    exact odd 1 (by omega)
  · have hn : (2 : Int) ≤ ins.length ∧ (ins.length : Int) ≤ 8 := har
    exact odd 0 (by omega)
theorem any_take {α : Type} {p : α → Bool} {l : List α} {k : Nat} {x : α} (h : l[k]? = some x) : (l.take (k + 1)).any p = ((l.take k).any p || p x) := by
  rw [List.take_add_one, h, List.any_append]
  show (_ || (p x || false)) = _
  rw [Bool.or_false]
set_option maxHeartbeats 8000000 in
theorem rgate8_ct (g : Gt) (ins : List Bool) (hi : g.ins.length ≤ 1000000) (hl : ins.length ≤ 1000000) (hrl : g.rows.length ≤ 1000000) (hz : ∀ r ∈ g.rows, r.length ≤ 140737488355328) :
    Ct Tryd.prog Hy 36 [.ag [.s g.name, .i .i64 g.op, .sl (sR g.ins), .sl (rR g.rows), .b g.off], bL ins] [.b (okG g ins && gateV g ins), .i .i64 (if okG g ins = true then 0 else 1)] := by
  have hg := rGate_ct Hy g hi (by omega) hz
  cases hok : okG g ins with
  | false =>
    rw [Bool.false_and, if_neg (by decide)]
    unfold okG at hok
    cases hb : gateB g with
    | false =>
      rw [hb] at hg
      refine ct_of (cls := _root_.id) tt_ok follows_ Tryd.func36 rfl (by decide) (Nat.le_of_ble_eq_true rfl) ?_
      rw [show Tryd.f36.ntmps = 60 from rfl, s0_nf]
      simp only [List.zipIdx_cons, List.zipIdx_nil, List.map_cons, List.map_nil, Nat.reduceAdd, bL]
      repeat' first | refine c_seq ?_ | refine c_reg' rfl fun K E hK hE => ?_ | (refine r_opN fun κ η => ?_; simp only [go_sem, simprocAttr, Nat.le_refl]; refine η _ ?_; clear η κ) | (refine r_nil (hK _ ?_); clear hE hK E K) | refine q_seq ?_
      refine r_opN fun κ η => ?_; simp only [go_sem, simprocAttr, Nat.le_refl]; refine ⟨_, hg, ?_⟩; simp only [go_sem, simprocAttr, Nat.le_refl]; refine η _ ?_; clear η κ
      repeat' first | refine c_seq ?_ | refine c_reg' rfl fun K E hK hE => ?_ | ((first | refine r_opN fun κ η => ?_ | refine r_opG rfl fun κ η => ?_); simp only [go_sem, simprocAttr, Nat.le_refl]; refine η _ ?_; clear η κ) | (refine r_nil (hK _ ?_); clear hE hK E K) | refine q_seq ?_ | refine c_cond true rfl (fun _ => ?_) (fun h => (by cases h)) | refine c_ret ?_ | refine q_seqR ?_ | (refine q_ret ?_; refine q_r1 ?_; simp only [go_sem, simprocAttr, Nat.le_refl])
    | true =>
      rw [hb] at hg hok
      have hne : ¬ ins.length = g.ins.length := by simpa using hok
      have hne' : ((ins.length : Int) = g.ins.length) = False := eq_false (by omega)
      refine ct_of (cls := _root_.id) tt_ok follows_ Tryd.func36 rfl (by decide) (Nat.le_of_ble_eq_true rfl) ?_
      rw [show Tryd.f36.ntmps = 60 from rfl, s0_nf]
      simp only [List.zipIdx_cons, List.zipIdx_nil, List.map_cons, List.map_nil, Nat.reduceAdd, bL]
      repeat' first | refine c_seq ?_ | refine c_reg' rfl fun K E hK hE => ?_ | (refine r_opN fun κ η => ?_; simp only [go_sem, simprocAttr, Nat.le_refl]; refine η _ ?_; clear η κ) | (refine r_nil (hK _ ?_); clear hE hK E K) | refine q_seq ?_
      refine r_opN fun κ η => ?_; simp only [go_sem, simprocAttr, Nat.le_refl]; refine ⟨_, hg, ?_⟩; simp only [go_sem, simprocAttr, Nat.le_refl]; refine η _ ?_; clear η κ
      repeat' first | refine c_seq ?_ | refine c_reg' rfl fun K E hK hE => ?_ | ((first | refine r_opN fun κ η => ?_ | refine r_opG rfl fun κ η => ?_); simp only [go_sem, simprocAttr, Nat.le_refl, hne']; (repeat refine ⟨by omega, ?_⟩); refine η _ ?_; clear η κ) | (refine r_nil (hK _ ?_); clear hE hK E K) | refine q_seq ?_ | refine c_cond true rfl (fun _ => ?_) (fun h => (by cases h)) | refine c_ret ?_ | refine q_seqR ?_ | (refine q_ret ?_; refine q_r1 ?_; simp only [go_sem, simprocAttr, Nat.le_refl, hne'])
  | true =>
    rw [Bool.true_and, if_pos rfl, ← rgV_eq hok]
    have hb : gateB g = true := by unfold okG at hok; rw [Bool.and_eq_true] at hok; exact hok.1
    rw [hb] at hg
    have har := okG_ar hok
    have hop := (okG_ok hok).1
    have hle' : ((ins.length : Int) = g.ins.length) = True := eq_true (by have := (okG_ok hok).2.1; omega)
    obtain ⟨hRl, hRr⟩ := rowsG_ok hok hrl
    have hft := fun (r : Row) (h : r.length = ins.length) => rfits_ct Hy r ins (by omega) (by omega)
    clear hok hb hz
    unfold rgV
    by_cases h10 : g.op = 10
    · rw [show rowsG g ins.length = (g.rows, g.off) from if_pos h10] at hRl hRr ⊢
      have h10' := eq_true h10
      clear har hop
      obtain ⟨name, op, gi, R, O⟩ := g
      simp only at hg hle' h10' hRl hRr hrl ⊢
      simp only [bL] at hft
      refine ct_of (cls := _root_.id) tt_ok follows_ Tryd.func36 rfl (by decide) (Nat.le_of_ble_eq_true rfl) ?_
      rw [show Tryd.f36.ntmps = 60 from rfl, s0_nf]
      simp only [List.zipIdx_cons, List.zipIdx_nil, List.map_cons, List.map_nil, Nat.reduceAdd, bL]
      repeat' first | refine c_seq ?_ | refine c_reg' rfl fun K E hK hE => ?_ | (refine r_opN fun κ η => ?_; simp only [go_sem, simprocAttr, Nat.le_refl]; refine η _ ?_; clear η κ) | (refine r_nil (hK _ ?_); clear hE hK E K) | refine q_seq ?_
      refine r_opN fun κ η => ?_; simp only [go_sem, simprocAttr, Nat.le_refl]; refine ⟨_, hg, ?_⟩; simp only [go_sem, simprocAttr, Nat.le_refl]; refine η _ ?_; clear η κ
      repeat' first | refine c_seq ?_ | refine c_block ?_ | refine c_reg' rfl fun K E hK hE => ?_ | ((first | refine r_opN fun κ η => ?_ | refine r_opG rfl fun κ η => ?_); simp only [go_sem, simprocAttr, Nat.le_refl, hle', h10']; (repeat refine ⟨by omega, ?_⟩); refine η _ ?_; clear η κ) | (refine r_nil (hK _ ?_); clear hE hK E K) | refine q_seq ?_ | refine c_cond false rfl (fun h => (by cases h)) fun _ => ?_ | refine c_skip ?_
      refine c_loop (fun m s' => ∃ k : Nat, m = R.length - k ∧ k ≤ R.length ∧ ∃ F G0, s' = nf 60 F G0 [(1, .t (.sl (ins.map fun x => [.b x]))), (6, .t (.sl (rR R))), (7, .t (.b O)), (11, .t (.b ((R.take k).any fun r => fitB r ins))), (12, .t (.i .i64 k))] []) R.length ?_ ?_
      · exact ⟨0, by omega, by omega, _, _, nf_of rfl ⟨rfl, rfl, rfl, rfl, rfl, trivial⟩ trivial⟩
      rintro m s' ⟨k, rfl, hk, F, G0, rfl⟩
      by_cases hd : k < R.length
      · have hd' : ((k : Int) < R.length) = True := eq_true (by omega)
        obtain ⟨r, hr⟩ : ∃ r, R[k]? = some r := ⟨_, List.getElem?_eq_getElem hd⟩
        have hr' := rR_get hr
        have hf := hft r (hRr r (List.mem_of_getElem? hr))
        have hst := any_take (p := fun r => fitB r ins) hr
        generalize (R.take k).any (fun r => fitB r ins) = one at *
        cases one with
        | true =>
          repeat' first | refine c_seq ?_ | refine c_block ?_ | refine c_reg' rfl fun K E hK hE => ?_ | ((first | refine r_opN fun κ η => ?_ | refine r_opG rfl fun κ η => ?_); simp only [go_sem, simprocAttr, Nat.le_refl, hd']; (repeat refine ⟨by omega, ?_⟩); refine η _ ?_; clear η κ) | (refine r_nil (hK _ ?_); clear hE hK E K) | refine q_seq ?_ | refine c_cond true rfl (fun _ => ?_) (fun h => (by cases h)) | refine q_blk ?_ | refine c_skip ?_ | refine q_lpN ?_
          exact ⟨R.length - (k + 1), by omega, k + 1, rfl, by omega, _, _, nf_of rfl ⟨rfl, rfl, rfl, by rw [hst]; rfl, rfl, trivial⟩ trivial⟩
        | false =>
          repeat' first | refine c_seq ?_ | refine c_block ?_ | refine c_reg' rfl fun K E hK hE => ?_ | ((first | refine r_opN fun κ η => ?_ | refine r_opG rfl fun κ η => ?_); simp only [go_sem, simprocAttr, Nat.le_refl, hd', hr']; (repeat refine ⟨by omega, ?_⟩); refine η _ ?_; clear η κ) | (refine r_nil (hK _ ?_); clear hE hK E K) | refine q_seq ?_ | refine c_cond true rfl (fun _ => ?_) (fun h => (by cases h)) | refine c_skip ?_
          refine r_opG rfl fun κ η => ?_; simp only [go_sem, simprocAttr, Nat.le_refl]; refine ⟨_, hf, ?_⟩; simp only [go_sem, simprocAttr, Nat.le_refl]; refine η _ ?_; clear η κ
          repeat' first | refine c_reg' rfl fun K E hK hE => ?_ | (refine r_opN fun κ η => ?_; simp only [go_sem, simprocAttr, Nat.le_refl]; (repeat refine ⟨by omega, ?_⟩); refine η _ ?_; clear η κ) | (refine r_nil (hK _ ?_); clear hE hK E K) | refine q_seq ?_ | refine q_blk ?_ | refine q_lpN ?_
          exact ⟨R.length - (k + 1), by omega, k + 1, rfl, by omega, _, _, nf_of rfl ⟨rfl, rfl, rfl, by rw [hst]; rfl, rfl, trivial⟩ trivial⟩
      obtain rfl : k = R.length := by omega
      rw [List.take_of_length_le (Nat.le_refl _)]
      repeat' first | refine c_seq ?_ | refine c_reg' rfl fun K E hK hE => ?_ | (refine r_opN fun κ η => ?_; simp only [go_sem, simprocAttr, Nat.le_refl, Int.lt_irrefl]; refine η _ ?_; clear η κ) | (refine r_nil (hK _ ?_); clear hE hK E K) | refine q_seq ?_ | refine c_cond false rfl (fun h => (by cases h)) fun _ => ?_ | refine c_exit ?_ | refine c_ret ?_ | refine q_seqE ?_ | refine q_blkHit ?_ | refine q_lpE ?_ | (refine q_ret ?_; refine q_r1 ?_; simp only [go_sem, simprocAttr, Nat.le_refl, Int.lt_irrefl])
    · rw [show rowsG g ins.length = rowsC g.op ins.length from if_neg h10] at hRl hRr ⊢
      have h10' := eq_false h10
      have hrw := rows6_ct Hy g.op ins.length hop h10 har
      generalize (rowsC g.op ins.length).1 = R at *
      generalize (rowsC g.op ins.length).2 = O at *
      obtain ⟨name, op, gi, rows, off⟩ := g
      simp only at hg hle' h10' hrw
      simp only [bL] at hft
      clear har hop
      refine ct_of (cls := _root_.id) tt_ok follows_ Tryd.func36 rfl (by decide) (Nat.le_of_ble_eq_true rfl) ?_
      rw [show Tryd.f36.ntmps = 60 from rfl, s0_nf]
      simp only [List.zipIdx_cons, List.zipIdx_nil, List.map_cons, List.map_nil, Nat.reduceAdd, bL]
      repeat' first | refine c_seq ?_ | refine c_reg' rfl fun K E hK hE => ?_ | (refine r_opN fun κ η => ?_; simp only [go_sem, simprocAttr, Nat.le_refl]; refine η _ ?_; clear η κ) | (refine r_nil (hK _ ?_); clear hE hK E K) | refine q_seq ?_
      refine r_opN fun κ η => ?_; simp only [go_sem, simprocAttr, Nat.le_refl]; refine ⟨_, hg, ?_⟩; simp only [go_sem, simprocAttr, Nat.le_refl]; refine η _ ?_; clear η κ
      repeat' first | refine c_seq ?_ | refine c_reg' rfl fun K E hK hE => ?_ | ((first | refine r_opN fun κ η => ?_ | refine r_opG rfl fun κ η => ?_); simp only [go_sem, simprocAttr, Nat.le_refl, hle', h10']; (repeat refine ⟨by omega, ?_⟩); refine η _ ?_; clear η κ) | (refine r_nil (hK _ ?_); clear hE hK E K) | refine q_seq ?_ | refine c_cond true rfl (fun _ => ?_) (fun h => (by cases h)) | refine c_cond false rfl (fun h => (by cases h)) fun _ => ?_ | refine c_skip ?_
      refine r_opN fun κ η => ?_; simp only [go_sem, simprocAttr, Nat.le_refl]; refine ⟨_, hrw, ?_⟩; simp only [go_sem, simprocAttr, Nat.le_refl]; refine η _ ?_; clear η κ
      repeat' first | refine c_seq ?_ | refine c_block ?_ | refine c_reg' rfl fun K E hK hE => ?_ | (refine r_opN fun κ η => ?_; simp only [go_sem, simprocAttr, Nat.le_refl]; refine η _ ?_; clear η κ) | (refine r_nil (hK _ ?_); clear hE hK E K) | refine q_seq ?_
      refine c_loop (fun m s' => ∃ k : Nat, m = R.length - k ∧ k ≤ R.length ∧ ∃ F G0, s' = nf 60 F G0 [(1, .t (.sl (ins.map fun x => [.b x]))), (6, .t (.sl (rR R))), (7, .t (.b O)), (11, .t (.b ((R.take k).any fun r => fitB r ins))), (12, .t (.i .i64 k))] []) R.length ?_ ?_
      · exact ⟨0, by omega, by omega, _, _, nf_of rfl ⟨rfl, rfl, rfl, rfl, rfl, trivial⟩ trivial⟩
      rintro m s' ⟨k, rfl, hk, F, G0, rfl⟩
      by_cases hd : k < R.length
      · have hd' : ((k : Int) < R.length) = True := eq_true (by omega)
        obtain ⟨r, hr⟩ : ∃ r, R[k]? = some r := ⟨_, List.getElem?_eq_getElem hd⟩
        have hr' := rR_get hr
        have hf := hft r (hRr r (List.mem_of_getElem? hr))
        have hst := any_take (p := fun r => fitB r ins) hr
        generalize (R.take k).any (fun r => fitB r ins) = one at *
        cases one with
        | true =>
          repeat' first | refine c_seq ?_ | refine c_block ?_ | refine c_reg' rfl fun K E hK hE => ?_ | ((first | refine r_opN fun κ η => ?_ | refine r_opG rfl fun κ η => ?_); simp only [go_sem, simprocAttr, Nat.le_refl, hd']; (repeat refine ⟨by omega, ?_⟩); refine η _ ?_; clear η κ) | (refine r_nil (hK _ ?_); clear hE hK E K) | refine q_seq ?_ | refine c_cond true rfl (fun _ => ?_) (fun h => (by cases h)) | refine q_blk ?_ | refine c_skip ?_ | refine q_lpN ?_
          exact ⟨R.length - (k + 1), by omega, k + 1, rfl, by omega, _, _, nf_of rfl ⟨rfl, rfl, rfl, by rw [hst]; rfl, rfl, trivial⟩ trivial⟩
        | false =>
          repeat' first | refine c_seq ?_ | refine c_block ?_ | refine c_reg' rfl fun K E hK hE => ?_ | ((first | refine r_opN fun κ η => ?_ | refine r_opG rfl fun κ η => ?_); simp only [go_sem, simprocAttr, Nat.le_refl, hd', hr']; (repeat refine ⟨by omega, ?_⟩); refine η _ ?_; clear η κ) | (refine r_nil (hK _ ?_); clear hE hK E K) | refine q_seq ?_ | refine c_cond true rfl (fun _ => ?_) (fun h => (by cases h)) | refine c_skip ?_
          refine r_opG rfl fun κ η => ?_; simp only [go_sem, simprocAttr, Nat.le_refl]; refine ⟨_, hf, ?_⟩; simp only [go_sem, simprocAttr, Nat.le_refl]; refine η _ ?_; clear η κ
          repeat' first | refine c_reg' rfl fun K E hK hE => ?_ | (refine r_opN fun κ η => ?_; simp only [go_sem, simprocAttr, Nat.le_refl]; (repeat refine ⟨by omega, ?_⟩); refine η _ ?_; clear η κ) | (refine r_nil (hK _ ?_); clear hE hK E K) | refine q_seq ?_ | refine q_blk ?_ | refine q_lpN ?_
          exact ⟨R.length - (k + 1), by omega, k + 1, rfl, by omega, _, _, nf_of rfl ⟨rfl, rfl, rfl, by rw [hst]; rfl, rfl, trivial⟩ trivial⟩
      obtain rfl : k = R.length := by omega
      rw [List.take_of_length_le (Nat.le_refl _)]
      repeat' first | refine c_seq ?_ | refine c_reg' rfl fun K E hK hE => ?_ | (refine r_opN fun κ η => ?_; simp only [go_sem, simprocAttr, Nat.le_refl, Int.lt_irrefl]; refine η _ ?_; clear η κ) | (refine r_nil (hK _ ?_); clear hE hK E K) | refine q_seq ?_ | refine c_cond false rfl (fun h => (by cases h)) fun _ => ?_ | refine c_exit ?_ | refine c_ret ?_ | refine q_seqE ?_ | refine q_blkHit ?_ | refine q_lpE ?_ | (refine q_ret ?_; refine q_r1 ?_; simp only [go_sem, simprocAttr, Nat.le_refl, Int.lt_irrefl])
end Go.Proofs.YtbhoeanfnbkenaaDoor
