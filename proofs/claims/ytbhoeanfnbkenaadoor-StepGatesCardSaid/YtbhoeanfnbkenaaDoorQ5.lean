import Derived.Test.YtbhoeanfnbkenaaDoorQ4
namespace Go.Proofs.YtbhoeanfnbkenaaDoor
open Go.RowKit
set_option maxRecDepth 100000
set_option linter.unusedSimpArgs false
variable (Hy : World → Prop)
attribute [local irreducible] runM runD cwp seqQ blkQ lpQ retQ asQ bdQ bdY retP endR preD retD
def okG (g : Gt) (ins : List Bool) : Bool := gateB g && decide (ins.length = g.ins.length)
theorem okG_ok {g : Gt} {ins : List Bool} (h : okG g ins = true) : opB g.op = true ∧ ins.length = g.ins.length ∧ (g.op = 10 → g.rows.length ≤ 128 ∧ ∀ r ∈ g.rows, r.length = ins.length) := by
  unfold okG gateB at h
  simp only [Bool.and_eq_true, decide_eq_true_eq] at h
  obtain ⟨⟨h1, _, h3⟩, h4⟩ := h
  refine ⟨h1, h4, fun h10 => ?_⟩
  rw [if_pos h10, Bool.and_eq_true, decide_eq_true_eq, List.all_eq_true] at h3
  refine ⟨h3.1, fun r hr => ?_⟩
  have := h3.2 r hr
  unfold rowB at this
  rw [Bool.and_eq_true, decide_eq_true_eq] at this
  omega
set_option maxHeartbeats 4000000 in
theorem stepGate_ct (g : Gt) (ins : List Bool) (hop : inR .i64 g.op) (hi : g.ins.length ≤ 1000000) (hl : ins.length ≤ 1000000) (hrl : g.rows.length ≤ 1000000) :
    Ct Tryd.prog Hy 35 [.ag (gE g), bL ins] [.b (okG g ins && gateV g ins), .i .i64 (if okG g ins = true then 0 else 1)] := by
  have hg := netGate_ct Hy g hop hi hrl
  cases hok : okG g ins with
  | false =>
    rw [Bool.false_and, if_neg (by decide)]
    unfold okG at hok
    obtain ⟨name, op, gi, rows, off⟩ := g
    simp only at hi hrl hok
    cases hb : gateB ⟨name, op, gi, rows, off⟩ with
    | false =>
      rw [hb] at hg
      simp only [gE, sL, rL] at hg
      refine ct_of (cls := _root_.id) tt_ok follows_ Tryd.func35 rfl (by decide) (Nat.le_of_ble_eq_true rfl) ?_
      rw [show Tryd.f35.ntmps = 27 from rfl, s0_nf]
      simp only [List.zipIdx_cons, List.zipIdx_nil, List.map_cons, List.map_nil, Nat.reduceAdd, gE, sL, rL, bL]
      repeat' first | refine c_seq ?_ | refine c_reg' rfl fun K E hK hE => ?_ | (refine r_opN fun κ η => ?_; simp only [go_sem, simprocAttr, Nat.le_refl]; refine η _ ?_; clear η κ) | (refine r_nil (hK _ ?_); clear hE hK E K) | refine q_seq ?_
      refine r_opN fun κ η => ?_; simp only [go_sem, simprocAttr, Nat.le_refl]; refine ⟨_, hg, ?_⟩; simp only [go_sem, simprocAttr, Nat.le_refl]; refine η _ ?_; clear η κ
      repeat' first | refine c_seq ?_ | refine c_reg' rfl fun K E hK hE => ?_ | ((first | refine r_opN fun κ η => ?_ | refine r_opG rfl fun κ η => ?_); simp only [go_sem, simprocAttr, Nat.le_refl]; refine η _ ?_; clear η κ) | (refine r_nil (hK _ ?_); clear hE hK E K) | refine q_seq ?_ | refine c_cond true rfl (fun _ => ?_) (fun h => (by cases h)) | refine c_ret ?_ | refine q_seqR ?_ | (refine q_ret ?_; refine q_r1 ?_; simp only [go_sem, simprocAttr, Nat.le_refl])
    | true =>
      rw [hb] at hg hok
      have hne : ¬ ins.length = gi.length := by simpa using hok
      have hne' : ((ins.length : Int) = gi.length) = False := eq_false (by omega)
      simp only [gE, sL, rL] at hg
      refine ct_of (cls := _root_.id) tt_ok follows_ Tryd.func35 rfl (by decide) (Nat.le_of_ble_eq_true rfl) ?_
      rw [show Tryd.f35.ntmps = 27 from rfl, s0_nf]
      simp only [List.zipIdx_cons, List.zipIdx_nil, List.map_cons, List.map_nil, Nat.reduceAdd, gE, sL, rL, bL]
      repeat' first | refine c_seq ?_ | refine c_reg' rfl fun K E hK hE => ?_ | (refine r_opN fun κ η => ?_; simp only [go_sem, simprocAttr, Nat.le_refl]; refine η _ ?_; clear η κ) | (refine r_nil (hK _ ?_); clear hE hK E K) | refine q_seq ?_
      refine r_opN fun κ η => ?_; simp only [go_sem, simprocAttr, Nat.le_refl]; refine ⟨_, hg, ?_⟩; simp only [go_sem, simprocAttr, Nat.le_refl]; refine η _ ?_; clear η κ
      repeat' first | refine c_seq ?_ | refine c_reg' rfl fun K E hK hE => ?_ | ((first | refine r_opN fun κ η => ?_ | refine r_opG rfl fun κ η => ?_); simp only [go_sem, simprocAttr, Nat.le_refl, hne']; (repeat refine ⟨by omega, ?_⟩); refine η _ ?_; clear η κ) | (refine r_nil (hK _ ?_); clear hE hK E K) | refine q_seq ?_ | refine c_cond true rfl (fun _ => ?_) (fun h => (by cases h)) | refine c_ret ?_ | refine q_seqR ?_ | (refine q_ret ?_; refine q_r1 ?_; simp only [go_sem, simprocAttr, Nat.le_refl, hne'])
  | true =>
    rw [Bool.true_and, if_pos rfl]
    obtain ⟨ho, hle, h10⟩ := okG_ok hok
    have hb : gateB g = true := by unfold okG at hok; rw [Bool.and_eq_true] at hok; exact hok.1
    rw [hb] at hg
    have hle' : ((ins.length : Int) = g.ins.length) = True := eq_true (by omega)
    have hor := of_decide_eq_true ho
    have hru := fun (o : Nat → O) => ruleOf_cd Hy g ho (o := o) (R := [] ++ [7101, 7102, 7103]) ⟨by simp, by simp, by simp⟩
    have htu := fun (b : Bool) (o : Nat → O) (R : List Nat) => turn_cd Hy g b (o := o) (R := R)
    have hv : ∀ b, b = askV g ins → (turnsB g != b) = gateV g ins := fun b h => by rw [h]; rfl
    by_cases hten : g.op = 10
    · obtain ⟨hr1, hr2⟩ := h10 hten
      have hF : askF g.op = 102 := by rw [hten]; rfl
      have h4 := fun (o : Nat → O) (q : Nat) (h : o 7101 = ⟨q, .cells 45 (gC g)⟩) => rule4_cd Hy g ins hten hl hrl (fun r hm => ⟨by rw [hr2 r hm]; exact Nat.le_refl _, by rw [hr2 r hm]; exact hl⟩) (R := [7101] ++ [7202]) h ⟨by simp, by simp⟩
      simp only [if_pos hten, hF] at hru
      generalize turnF g = tf at *
      generalize askV g ins = av at *
      have hv := hv av rfl
      obtain ⟨name, op, gi, rows, off⟩ := g
      simp only [gE, gC, sL, rL, bL] at hg hru h4 hle'
      refine ct_of (cls := _root_.id) tt_ok follows_ Tryd.func35 rfl (by decide) (Nat.le_of_ble_eq_true rfl) ?_
      rw [show Tryd.f35.ntmps = 27 from rfl, s0_nf]
      simp only [List.zipIdx_cons, List.zipIdx_nil, List.map_cons, List.map_nil, Nat.reduceAdd, gE, sL, rL, bL]
      repeat' first | refine c_seq ?_ | refine c_reg' rfl fun K E hK hE => ?_ | (refine r_opN fun κ η => ?_; simp only [go_sem, simprocAttr, Nat.le_refl]; refine η _ ?_; clear η κ) | (refine r_nil (hK _ ?_); clear hE hK E K) | refine q_seq ?_
      refine r_opN fun κ η => ?_; simp only [go_sem, simprocAttr, Nat.le_refl]; refine ⟨_, hg, ?_⟩; simp only [go_sem, simprocAttr, Nat.le_refl]; refine η _ ?_; clear η κ
      repeat' first | refine c_seq ?_ | refine c_reg' rfl fun K E hK hE => ?_ | ((first | refine r_opN fun κ η => ?_ | refine r_opG rfl fun κ η => ?_); simp only [go_sem, simprocAttr, Nat.le_refl, hle']; (repeat refine ⟨by omega, ?_⟩); refine η _ ?_; clear η κ) | (refine r_nil (hK _ ?_); clear hE hK E K) | refine q_seq ?_ | refine c_cond false rfl (fun h => (by cases h)) fun _ => ?_ | refine c_skip ?_
      refine r_callD (R := []) (W := [7101, 7102, 7103]) fun κ η => ?_; simp only [go_sem, simprocAttr, Nat.le_refl]; refine ⟨_, _, ?wr_, hru _, ?_⟩; (case wr_ => rfl); (try simp only [go_sem, simprocAttr, Nat.le_refl]); refine η _ ?_; clear η κ
      repeat' first | refine c_seq ?_ | refine c_draw' rfl (by kernel_rfl) fun K E hK hE => ?_ | ((first | refine r_opN fun κ η => ?_ | refine d_opN (by kernel_rfl) fun κ η => ?_); simp only [go_sem, simprocAttr, Nat.le_refl]; (repeat refine ⟨by omega, ?_⟩); refine η _ ?_; clear η κ) | (refine r_nil (hK _ ?_); clear hE hK E K) | refine q_seq ?_
      refine d_call (R := [7101]) (W := [7202]) (by kernel_rfl) fun κ η => ?_; simp only [go_sem, simprocAttr, Nat.le_refl]; refine ⟨_, _, ?wr_, h4 _ _ rfl, ?_⟩; (case wr_ => rfl); (try simp only [go_sem, simprocAttr, Nat.le_refl]); refine η _ ?_; clear η κ
      repeat' (refine d_opN (by kernel_rfl) fun κ η => ?_; simp only [go_sem, simprocAttr, Nat.le_refl]; refine η _ ?_; clear η κ)
      refine d_call (R := []) (W := []) (by kernel_rfl) fun κ η => ?_; simp only [go_sem, simprocAttr, Nat.le_refl]; refine ⟨_, _, ?wr_, htu _ _ _, ?_⟩; (case wr_ => rfl); (try simp only [go_sem, simprocAttr, Nat.le_refl]); refine η _ ?_; clear η κ
      repeat' first | (refine d_opN (by kernel_rfl) fun κ η => ?_; simp only [go_sem, simprocAttr, Nat.le_refl, hv]; refine η _ ?_; clear η κ) | refine q_seq ?_ | (refine d_nil (hK _ ?_); clear hE hK E K) | refine c_ret ?_ | (refine q_ret ?_; refine q_r1 ?_; simp only [go_sem, simprocAttr, Nat.le_refl, hv])
    · have has := fun (o : Nat → O) (R : List Nat) => ask_cd Hy g ins ⟨hor.1, by omega⟩ hl (o := o) (R := R)
      simp only [if_neg hten] at hru
      generalize turnF g = tf at *
      generalize askF g.op = af at *
      generalize askV g ins = av at *
      have hv := hv av rfl
      obtain ⟨name, op, gi, rows, off⟩ := g
      simp only [gE, gC, sL, rL, bL] at hg hru has hle'
      refine ct_of (cls := _root_.id) tt_ok follows_ Tryd.func35 rfl (by decide) (Nat.le_of_ble_eq_true rfl) ?_
      rw [show Tryd.f35.ntmps = 27 from rfl, s0_nf]
      simp only [List.zipIdx_cons, List.zipIdx_nil, List.map_cons, List.map_nil, Nat.reduceAdd, gE, sL, rL, bL]
      repeat' first | refine c_seq ?_ | refine c_reg' rfl fun K E hK hE => ?_ | (refine r_opN fun κ η => ?_; simp only [go_sem, simprocAttr, Nat.le_refl]; refine η _ ?_; clear η κ) | (refine r_nil (hK _ ?_); clear hE hK E K) | refine q_seq ?_
      refine r_opN fun κ η => ?_; simp only [go_sem, simprocAttr, Nat.le_refl]; refine ⟨_, hg, ?_⟩; simp only [go_sem, simprocAttr, Nat.le_refl]; refine η _ ?_; clear η κ
      repeat' first | refine c_seq ?_ | refine c_reg' rfl fun K E hK hE => ?_ | ((first | refine r_opN fun κ η => ?_ | refine r_opG rfl fun κ η => ?_); simp only [go_sem, simprocAttr, Nat.le_refl, hle']; (repeat refine ⟨by omega, ?_⟩); refine η _ ?_; clear η κ) | (refine r_nil (hK _ ?_); clear hE hK E K) | refine q_seq ?_ | refine c_cond false rfl (fun h => (by cases h)) fun _ => ?_ | refine c_skip ?_
      refine r_callD (R := []) (W := [7101, 7102, 7103]) fun κ η => ?_; simp only [go_sem, simprocAttr, Nat.le_refl]; refine ⟨_, _, ?wr_, hru _, ?_⟩; (case wr_ => rfl); (try simp only [go_sem, simprocAttr, Nat.le_refl]); refine η _ ?_; clear η κ
      repeat' first | refine c_seq ?_ | refine c_draw' rfl (by kernel_rfl) fun K E hK hE => ?_ | ((first | refine r_opN fun κ η => ?_ | refine d_opN (by kernel_rfl) fun κ η => ?_); simp only [go_sem, simprocAttr, Nat.le_refl]; (repeat refine ⟨by omega, ?_⟩); refine η _ ?_; clear η κ) | (refine r_nil (hK _ ?_); clear hE hK E K) | refine q_seq ?_
      refine d_call (R := []) (W := []) (by kernel_rfl) fun κ η => ?_; simp only [go_sem, simprocAttr, Nat.le_refl]; refine ⟨_, _, ?wr_, has _ _, ?_⟩; (case wr_ => rfl); (try simp only [go_sem, simprocAttr, Nat.le_refl]); refine η _ ?_; clear η κ
      repeat' (refine d_opN (by kernel_rfl) fun κ η => ?_; simp only [go_sem, simprocAttr, Nat.le_refl]; refine η _ ?_; clear η κ)
      refine d_call (R := []) (W := []) (by kernel_rfl) fun κ η => ?_; simp only [go_sem, simprocAttr, Nat.le_refl]; refine ⟨_, _, ?wr_, htu _ _ _, ?_⟩; (case wr_ => rfl); (try simp only [go_sem, simprocAttr, Nat.le_refl]); refine η _ ?_; clear η κ
      repeat' first | (refine d_opN (by kernel_rfl) fun κ η => ?_; simp only [go_sem, simprocAttr, Nat.le_refl, hv]; refine η _ ?_; clear η κ) | refine q_seq ?_ | (refine d_nil (hK _ ?_); clear hE hK E K) | refine c_ret ?_ | (refine q_ret ?_; refine q_r1 ?_; simp only [go_sem, simprocAttr, Nat.le_refl, hv])
end Go.Proofs.YtbhoeanfnbkenaaDoor
