import Derived.Test.YtbhoeanfnbkenaaGreatDoorQ4
namespace Go.Proofs.YtbhoeanfnbkenaaGreatDoor
open Go.RowKit
set_option maxRecDepth 100000
set_option linter.unusedSimpArgs false
variable (Hy : World → Prop)
attribute [local irreducible] zU zY cwp z1 z6 lpQ z8 asQ bdQ bdY zab zac zad zaa
def okG (g : Gt) (ins : List Bool) : Bool := zaM g && decide (ins.length = g.ins.length)
theorem zcU {g : Gt} {ins : List Bool} (h : okG g ins = true) : opB g.op = true ∧ ins.length = g.ins.length ∧ (g.op = 10 → g.rows.length ≤ 128 ∧ ∀ r ∈ g.rows, r.length = ins.length) := by
 unfold okG zaM at h
 simp only [Bool.and_eq_true, decide_eq_true_eq] at h
 obtain ⟨⟨h1, _, h3⟩, h4⟩ := h
 refine ⟨h1, h4, fun h10 => ?_⟩
 rw [if_pos h10, Bool.and_eq_true, decide_eq_true_eq, List.all_eq_true] at h3
 refine ⟨h3.1, fun r hr => ?_⟩
 have := h3.2 r hr
 unfold zbd at this
 rw [Bool.and_eq_true, decide_eq_true_eq] at this
 omega
set_option maxHeartbeats 4000000 in
theorem zln (g : Gt) (ins : List Bool) (hop : inR .i64 g.op) (hi : g.ins.length ≤ 1000000) (hl : ins.length ≤ 1000000) (hrl : g.rows.length ≤ 1000000) :
  Ct Tryz.prog Hy 22 [.ag (gE g), bL ins] [.b (okG g ins && zbp g ins), .i .i64 (if okG g ins = true then 0 else 1)] := by
 have hg := zhW Hy g hop hi hrl
 cases hok : okG g ins with
 | false =>
  rw [Bool.false_and, if_neg (by decide)]
  unfold okG at hok
  obtain ⟨name, op, gi, rows, off⟩ := g
  simp only at hi hrl hok
  cases hb : zaM ⟨name, op, gi, rows, off⟩ with
  | false =>
   rw [hb] at hg
   simp only [gE, sL, rL] at hg
   refine zI (cls := _root_.id) zB zD Tryz.func22 rfl (by decide) (Nat.le_of_ble_eq_true rfl) ?_
   rw [show Tryz.f22.ntmps = 27 from rfl, zC]
   simp only [List.zipIdx_cons, List.zipIdx_nil, List.map_cons, List.map_nil, Nat.reduceAdd, gE, sL, rL, bL]
   repeat' first | apply zg | refine zf rfl fun K E hK hE => ?_ | (refine za fun κ η => ?_; simp only [go_sem, simprocAttr]; refine η _ ?_; clear η κ) | (refine zd (hK _ ?_); clear hE hK E K) | apply zb
   refine za fun κ η => ?_; simp only [go_sem, simprocAttr]; refine ⟨_, hg, ?_⟩; simp only [go_sem, simprocAttr]; refine η _ ?_; clear η κ
   repeat' first | apply zg | refine zf rfl fun K E hK hE => ?_ | ((first | refine za fun κ η => ?_ | refine zo rfl fun κ η => ?_); simp only [go_sem, simprocAttr]; refine η _ ?_; clear η κ) | (refine zd (hK _ ?_); clear hE hK E K) | apply zb | refine zh true rfl (fun _ => ?_) (fun h => (by cases h)) | apply zk | apply zy | (apply zm; apply zn; simp only [go_sem, simprocAttr])
  | true =>
   rw [hb] at hg hok
   have hne : ¬ ins.length = gi.length := by simpa using hok
   have hne' : ((ins.length : Int) = gi.length) = False := eq_false (by omega)
   simp only [gE, sL, rL] at hg
   refine zI (cls := _root_.id) zB zD Tryz.func22 rfl (by decide) (Nat.le_of_ble_eq_true rfl) ?_
   rw [show Tryz.f22.ntmps = 27 from rfl, zC]
   simp only [List.zipIdx_cons, List.zipIdx_nil, List.map_cons, List.map_nil, Nat.reduceAdd, gE, sL, rL, bL]
   repeat' first | apply zg | refine zf rfl fun K E hK hE => ?_ | (refine za fun κ η => ?_; simp only [go_sem, simprocAttr]; refine η _ ?_; clear η κ) | (refine zd (hK _ ?_); clear hE hK E K) | apply zb
   refine za fun κ η => ?_; simp only [go_sem, simprocAttr]; refine ⟨_, hg, ?_⟩; simp only [go_sem, simprocAttr]; refine η _ ?_; clear η κ
   repeat' first | apply zg | refine zf rfl fun K E hK hE => ?_ | ((first | refine za fun κ η => ?_ | refine zo rfl fun κ η => ?_); simp only [go_sem, simprocAttr, hne']; (repeat refine ⟨by omega, ?_⟩); refine η _ ?_; clear η κ) | (refine zd (hK _ ?_); clear hE hK E K) | apply zb | refine zh true rfl (fun _ => ?_) (fun h => (by cases h)) | apply zk | apply zy | (apply zm; apply zn; simp only [go_sem, simprocAttr, hne'])
 | true =>
  rw [Bool.true_and, if_pos rfl]
  obtain ⟨ho, hle, h10⟩ := zcU hok
  have hb : zaM g = true := by unfold okG at hok; rw [Bool.and_eq_true] at hok; exact hok.1
  rw [hb] at hg
  have hle' : ((ins.length : Int) = g.ins.length) = True := eq_true (by omega)
  have hor := of_decide_eq_true ho
  have hru := fun (o : Nat → O) => ziu Hy g ho (o := o) (R := [] ++ [7101, 7102, 7103]) ⟨by simp, by simp, by simp⟩
  have htu := fun (b : Bool) (o : Nat → O) (R : List Nat) => zir Hy g b (o := o) (R := R)
  have hv : ∀ b, b = zbo g ins → (zcj g != b) = zbp g ins := fun b h => by rw [h]; rfl
  by_cases hten : g.op = 10
  ·obtain ⟨hr1, hr2⟩ := h10 hten
   have hF : zb3 g.op = 63 := by rw [hten]; rfl
   have h4 := fun (o : Nat → O) (q : Nat) (h : o 7101 = ⟨q, .cells 47 (gC g)⟩) => zit Hy g ins hten hl hrl (fun r hm => ⟨by rw [hr2 r hm]; exact Nat.le_refl _, by rw [hr2 r hm]; exact hl⟩) (R := [7101] ++ [7202]) h ⟨by simp, by simp⟩
   simp only [if_pos hten, hF] at hru
   generalize zbJ g = tf at *
   generalize zbo g ins = av at *
   have hv := hv av rfl
   obtain ⟨name, op, gi, rows, off⟩ := g
   simp only [gE, gC, sL, rL, bL] at hg hru h4 hle'
   refine zI (cls := _root_.id) zB zD Tryz.func22 rfl (by decide) (Nat.le_of_ble_eq_true rfl) ?_
   rw [show Tryz.f22.ntmps = 27 from rfl, zC]
   simp only [List.zipIdx_cons, List.zipIdx_nil, List.map_cons, List.map_nil, Nat.reduceAdd, gE, sL, rL, bL]
   repeat' first | apply zg | refine zf rfl fun K E hK hE => ?_ | (refine za fun κ η => ?_; simp only [go_sem, simprocAttr]; refine η _ ?_; clear η κ) | (refine zd (hK _ ?_); clear hE hK E K) | apply zb
   refine za fun κ η => ?_; simp only [go_sem, simprocAttr]; refine ⟨_, hg, ?_⟩; simp only [go_sem, simprocAttr]; refine η _ ?_; clear η κ
   repeat' first | apply zg | refine zf rfl fun K E hK hE => ?_ | ((first | refine za fun κ η => ?_ | refine zo rfl fun κ η => ?_); simp only [go_sem, simprocAttr, hle']; (repeat refine ⟨by omega, ?_⟩); refine η _ ?_; clear η κ) | (refine zd (hK _ ?_); clear hE hK E K) | apply zb | refine zh false rfl (fun h => (by cases h)) fun _ => ?_ | apply zi
   refine zcH (R := []) (W := [7101, 7102, 7103]) fun κ η => ?_; simp only [go_sem, simprocAttr]; refine ⟨_, _, ?wr_, hru _, ?_⟩; (case wr_ => rfl); (try simp only [go_sem, simprocAttr]); refine η _ ?_; clear η κ
   repeat' first | apply zg | refine zG rfl (by kernel_rfl) fun K E hK hE => ?_ | ((first | refine za fun κ η => ?_ | refine zr (by kernel_rfl) fun κ η => ?_); simp only [go_sem, simprocAttr]; (repeat refine ⟨by omega, ?_⟩); refine η _ ?_; clear η κ) | (refine zd (hK _ ?_); clear hE hK E K) | apply zb
   refine zbm (R := [7101]) (W := [7202]) (by kernel_rfl) fun κ η => ?_; simp only [go_sem, simprocAttr]; refine ⟨_, _, ?wr_, h4 _ _ rfl, ?_⟩; (case wr_ => rfl); (try simp only [go_sem, simprocAttr]); refine η _ ?_; clear η κ
   repeat' (refine zr (by kernel_rfl) fun κ η => ?_; simp only [go_sem, simprocAttr]; refine η _ ?_; clear η κ)
   refine zbm (R := []) (W := []) (by kernel_rfl) fun κ η => ?_; simp only [go_sem, simprocAttr]; refine ⟨_, _, ?wr_, htu _ _ _, ?_⟩; (case wr_ => rfl); (try simp only [go_sem, simprocAttr]); refine η _ ?_; clear η κ
   repeat' first | (refine zr (by kernel_rfl) fun κ η => ?_; simp only [go_sem, simprocAttr, hv]; refine η _ ?_; clear η κ) | apply zb | (refine zH (hK _ ?_); clear hE hK E K) | apply zk | (apply zm; apply zn; simp only [go_sem, simprocAttr, hv])
  ·have has := fun (o : Nat → O) (R : List Nat) => zis Hy g ins ⟨hor.1, by omega⟩ hl (o := o) (R := R)
   simp only [if_neg hten] at hru
   generalize zbJ g = tf at *
   generalize zb3 g.op = af at *
   generalize zbo g ins = av at *
   have hv := hv av rfl
   obtain ⟨name, op, gi, rows, off⟩ := g
   simp only [gE, gC, sL, rL, bL] at hg hru has hle'
   refine zI (cls := _root_.id) zB zD Tryz.func22 rfl (by decide) (Nat.le_of_ble_eq_true rfl) ?_
   rw [show Tryz.f22.ntmps = 27 from rfl, zC]
   simp only [List.zipIdx_cons, List.zipIdx_nil, List.map_cons, List.map_nil, Nat.reduceAdd, gE, sL, rL, bL]
   repeat' first | apply zg | refine zf rfl fun K E hK hE => ?_ | (refine za fun κ η => ?_; simp only [go_sem, simprocAttr]; refine η _ ?_; clear η κ) | (refine zd (hK _ ?_); clear hE hK E K) | apply zb
   refine za fun κ η => ?_; simp only [go_sem, simprocAttr]; refine ⟨_, hg, ?_⟩; simp only [go_sem, simprocAttr]; refine η _ ?_; clear η κ
   repeat' first | apply zg | refine zf rfl fun K E hK hE => ?_ | ((first | refine za fun κ η => ?_ | refine zo rfl fun κ η => ?_); simp only [go_sem, simprocAttr, hle']; (repeat refine ⟨by omega, ?_⟩); refine η _ ?_; clear η κ) | (refine zd (hK _ ?_); clear hE hK E K) | apply zb | refine zh false rfl (fun h => (by cases h)) fun _ => ?_ | apply zi
   refine zcH (R := []) (W := [7101, 7102, 7103]) fun κ η => ?_; simp only [go_sem, simprocAttr]; refine ⟨_, _, ?wr_, hru _, ?_⟩; (case wr_ => rfl); (try simp only [go_sem, simprocAttr]); refine η _ ?_; clear η κ
   repeat' first | apply zg | refine zG rfl (by kernel_rfl) fun K E hK hE => ?_ | ((first | refine za fun κ η => ?_ | refine zr (by kernel_rfl) fun κ η => ?_); simp only [go_sem, simprocAttr]; (repeat refine ⟨by omega, ?_⟩); refine η _ ?_; clear η κ) | (refine zd (hK _ ?_); clear hE hK E K) | apply zb
   refine zbm (R := []) (W := []) (by kernel_rfl) fun κ η => ?_; simp only [go_sem, simprocAttr]; refine ⟨_, _, ?wr_, has _ _, ?_⟩; (case wr_ => rfl); (try simp only [go_sem, simprocAttr]); refine η _ ?_; clear η κ
   repeat' (refine zr (by kernel_rfl) fun κ η => ?_; simp only [go_sem, simprocAttr]; refine η _ ?_; clear η κ)
   refine zbm (R := []) (W := []) (by kernel_rfl) fun κ η => ?_; simp only [go_sem, simprocAttr]; refine ⟨_, _, ?wr_, htu _ _ _, ?_⟩; (case wr_ => rfl); (try simp only [go_sem, simprocAttr]); refine η _ ?_; clear η κ
   repeat' first | (refine zr (by kernel_rfl) fun κ η => ?_; simp only [go_sem, simprocAttr, hv]; refine η _ ?_; clear η κ) | apply zb | (refine zH (hK _ ?_); clear hE hK E K) | apply zk | (apply zm; apply zn; simp only [go_sem, simprocAttr, hv])
end Go.Proofs.YtbhoeanfnbkenaaGreatDoor
