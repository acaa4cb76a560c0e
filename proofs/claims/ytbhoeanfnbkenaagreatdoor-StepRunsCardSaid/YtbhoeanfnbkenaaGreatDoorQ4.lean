import Derived.Test.YtbhoeanfnbkenaaGreatDoorQ3
namespace Go.Proofs.YtbhoeanfnbkenaaGreatDoor
open Go.RowKit
set_option maxRecDepth 100000
set_option linter.unusedSimpArgs false
variable (Hy : World → Prop)
attribute [local irreducible] zU zY cwp z1 z6 lpQ z8 asQ bdQ bdY zab zac zad zaa
def zbo (g : Gt) (ins : List Bool) : Bool :=
 if g.op ≤ 1 then false else if g.op = 2 ∨ g.op = 4 ∨ g.op = 5 then !decide (false ∈ ins) else if g.op = 3 ∨ g.op = 6 ∨ g.op = 7 then decide (true ∈ ins)
 else if g.op = 8 ∨ g.op = 9 then zb4 ins else g.rows.any fun r => zan r ins
def zcj (g : Gt) : Bool := decide (g.op = 1 ∨ g.op = 3 ∨ g.op = 5 ∨ g.op = 7 ∨ g.op = 9) || (decide (g.op = 10) && g.off)
def zbp (g : Gt) (ins : List Bool) : Bool := zcj g != zbo g ins
def zb3 (op : Int) : FuncId :=
 if op ≤ 1 then 58 else if op = 2 ∨ op = 4 ∨ op = 5 then 59 else if op = 3 ∨ op = 6 ∨ op = 7 then 61 else if op = 8 ∨ op = 9 then 62 else 63
def zbJ (g : Gt) : FuncId := if zcj g = true then 57 else 56
theorem zir (g : Gt) (b : Bool) {o : Nat → O} {R : List Nat} : Cd Tryz.prog Hy (zbJ g) [.t (.b b)] o R [] (.t (.b (zcj g != b))) := by
 intro o2 _
 unfold zbJ
 cases zcj g with
 | true =>
  rw [if_pos rfl]
  have h : Ct Tryz.prog Hy 57 [.b b] [.b !b] := by
   refine zI (cls := _root_.id) zB zD Tryz.func57 rfl (by decide) (Nat.le_of_ble_eq_true rfl) ?_
   rw [show Tryz.f57.ntmps = 5 from rfl, zC]
   simp only [List.zipIdx_cons, List.zipIdx_nil, List.map_cons, List.map_nil, Nat.reduceAdd]
   repeat' first | apply zg | apply zj | refine zf rfl fun K E hK hE => ?_ | refine zG rfl (by kernel_rfl) fun K E hK hE => ?_ | ((first | refine za fun κ η => ?_ | refine zo rfl fun κ η => ?_ | refine zr (by kernel_rfl) fun κ η => ?_ | refine zK (by kernel_rfl) rfl fun κ η => ?_); simp only [go_sem, simprocAttr]; (repeat refine ⟨by (first | omega | assumption | exact ⟨_, rfl⟩ | exact ⟨_, rfl, rfl⟩), ?_⟩); refine η _ ?_; clear η κ) | (refine zd (hK _ ?_); clear hE hK E K) | apply zb | (refine zH (hK _ ?_); clear hE hK E K) | apply zq | apply zi | apply zt | apply zk | apply zu | apply zw | refine zR rfl ?_ | apply zx | apply zy | apply zJ | apply zL | apply zs | apply zT | apply zX | apply zV | apply zM | apply zN | apply zO | ((first | apply zm | apply zQ); (first | apply zn | apply zS | apply zP); simp only [go_sem, simprocAttr])
  have := Cm.of_ct (o := o2) h
  exact this.mono (by rintro rs o' ⟨rfl, rfl⟩; exact ⟨by simp [zbe], rfl⟩)
 | false =>
  rw [if_neg (by decide)]
  have h : Ct Tryz.prog Hy 56 [.b b] [.b b] := by
   refine zI (cls := _root_.id) zB zD Tryz.func56 rfl (by decide) (Nat.le_of_ble_eq_true rfl) ?_
   rw [show Tryz.f56.ntmps = 4 from rfl, zC]
   simp only [List.zipIdx_cons, List.zipIdx_nil, List.map_cons, List.map_nil, Nat.reduceAdd]
   repeat' first | apply zg | apply zj | refine zf rfl fun K E hK hE => ?_ | refine zG rfl (by kernel_rfl) fun K E hK hE => ?_ | ((first | refine za fun κ η => ?_ | refine zo rfl fun κ η => ?_ | refine zr (by kernel_rfl) fun κ η => ?_ | refine zK (by kernel_rfl) rfl fun κ η => ?_); simp only [go_sem, simprocAttr]; (repeat refine ⟨by (first | omega | assumption | exact ⟨_, rfl⟩ | exact ⟨_, rfl, rfl⟩), ?_⟩); refine η _ ?_; clear η κ) | (refine zd (hK _ ?_); clear hE hK E K) | apply zb | (refine zH (hK _ ?_); clear hE hK E K) | apply zq | apply zi | apply zt | apply zk | apply zu | apply zw | refine zR rfl ?_ | apply zx | apply zy | apply zJ | apply zL | apply zs | apply zT | apply zX | apply zV | apply zM | apply zN | apply zO | ((first | apply zm | apply zQ); (first | apply zn | apply zS | apply zP); simp only [go_sem, simprocAttr])
  have := Cm.of_ct (o := o2) h
  exact this.mono (by rintro rs o' ⟨rfl, rfl⟩; exact ⟨by simp [zbe], rfl⟩)
theorem zmp (g : Gt) (ins : List Bool) (hop : 0 ≤ g.op ∧ g.op ≤ 9) (hl : ins.length ≤ 1000000) : Ct Tryz.prog Hy (zb3 g.op) [bL ins] [.b (zbo g ins)] := by
 have hc0 := ziO Hy ins false hl
 have hc1 := ziO Hy ins true hl
 unfold zb3 zbo
 by_cases c1 : g.op ≤ 1
 ·rw [if_pos c1, if_pos c1]
  refine zI (cls := _root_.id) zB zD Tryz.func58 rfl (by decide) (Nat.le_of_ble_eq_true rfl) ?_
  rw [show Tryz.f58.ntmps = 3 from rfl, zC]
  simp only [List.zipIdx_cons, List.zipIdx_nil, List.map_cons, List.map_nil, Nat.reduceAdd]
  repeat' first | apply zg | apply zj | refine zf rfl fun K E hK hE => ?_ | refine zG rfl (by kernel_rfl) fun K E hK hE => ?_ | ((first | refine za fun κ η => ?_ | refine zo rfl fun κ η => ?_ | refine zr (by kernel_rfl) fun κ η => ?_ | refine zK (by kernel_rfl) rfl fun κ η => ?_); simp only [go_sem, simprocAttr]; (repeat refine ⟨by (first | omega | assumption | exact ⟨_, rfl⟩ | exact ⟨_, rfl, rfl⟩), ?_⟩); refine η _ ?_; clear η κ) | (refine zd (hK _ ?_); clear hE hK E K) | apply zb | (refine zH (hK _ ?_); clear hE hK E K) | apply zq | apply zi | apply zt | apply zk | apply zu | apply zw | refine zR rfl ?_ | apply zx | apply zy | apply zJ | apply zL | apply zs | apply zT | apply zX | apply zV | apply zM | apply zN | apply zO | ((first | apply zm | apply zQ); (first | apply zn | apply zS | apply zP); simp only [go_sem, simprocAttr])
 rw [if_neg c1, if_neg c1]
 by_cases c2 : g.op = 2 ∨ g.op = 4 ∨ g.op = 5
 ·rw [if_pos c2, if_pos c2]
  simp only [bL] at hc0
  refine zI (cls := _root_.id) zB zD Tryz.func59 rfl (by decide) (Nat.le_of_ble_eq_true rfl) ?_
  rw [show Tryz.f59.ntmps = 6 from rfl, zC]
  simp only [List.zipIdx_cons, List.zipIdx_nil, List.map_cons, List.map_nil, Nat.reduceAdd, bL]
  repeat' first | apply zg | apply zj | refine zf rfl fun K E hK hE => ?_ | refine zG rfl (by kernel_rfl) fun K E hK hE => ?_ | ((first | refine za fun κ η => ?_ | refine zo rfl fun κ η => ?_ | refine zr (by kernel_rfl) fun κ η => ?_ | refine zK (by kernel_rfl) rfl fun κ η => ?_); simp only [go_sem, simprocAttr]; (repeat refine ⟨by (first | omega | assumption | exact ⟨_, rfl⟩ | exact ⟨_, rfl, rfl⟩), ?_⟩); refine η _ ?_; clear η κ) | (refine zd (hK _ ?_); clear hE hK E K) | apply zb | (refine zH (hK _ ?_); clear hE hK E K) | apply zq | apply zi | apply zt | apply zk | apply zu | apply zw | refine zR rfl ?_ | apply zx | apply zy | apply zJ | apply zL | apply zs | apply zT | apply zX | apply zV | apply zM | apply zN | apply zO | ((first | apply zm | apply zQ); (first | apply zn | apply zS | apply zP); simp only [go_sem, simprocAttr])
  (first | refine za fun κ η => ?_ | refine zo rfl fun κ η => ?_ | refine zr (by kernel_rfl) fun κ η => ?_ | refine zK (by kernel_rfl) rfl fun κ η => ?_); simp only [go_sem, simprocAttr]; refine ⟨_, hc0, ?_⟩; simp only [go_sem, simprocAttr]; refine η _ ?_; clear η κ
  repeat' first | apply zg | apply zj | refine zf rfl fun K E hK hE => ?_ | refine zG rfl (by kernel_rfl) fun K E hK hE => ?_ | ((first | refine za fun κ η => ?_ | refine zo rfl fun κ η => ?_ | refine zr (by kernel_rfl) fun κ η => ?_ | refine zK (by kernel_rfl) rfl fun κ η => ?_); simp only [go_sem, simprocAttr]; (repeat refine ⟨by (first | omega | assumption | exact ⟨_, rfl⟩ | exact ⟨_, rfl, rfl⟩), ?_⟩); refine η _ ?_; clear η κ) | (refine zd (hK _ ?_); clear hE hK E K) | apply zb | (refine zH (hK _ ?_); clear hE hK E K) | apply zq | apply zi | apply zt | apply zk | apply zu | apply zw | refine zR rfl ?_ | apply zx | apply zy | apply zJ | apply zL | apply zs | apply zT | apply zX | apply zV | apply zM | apply zN | apply zO | ((first | apply zm | apply zQ); (first | apply zn | apply zS | apply zP); simp only [go_sem, simprocAttr])
 rw [if_neg c2, if_neg c2]
 by_cases c3 : g.op = 3 ∨ g.op = 6 ∨ g.op = 7
 ·rw [if_pos c3, if_pos c3]
  simp only [bL] at hc1
  refine zI (cls := _root_.id) zB zD Tryz.func61 rfl (by decide) (Nat.le_of_ble_eq_true rfl) ?_
  rw [show Tryz.f61.ntmps = 5 from rfl, zC]
  simp only [List.zipIdx_cons, List.zipIdx_nil, List.map_cons, List.map_nil, Nat.reduceAdd, bL]
  repeat' first | apply zg | apply zj | refine zf rfl fun K E hK hE => ?_ | refine zG rfl (by kernel_rfl) fun K E hK hE => ?_ | ((first | refine za fun κ η => ?_ | refine zo rfl fun κ η => ?_ | refine zr (by kernel_rfl) fun κ η => ?_ | refine zK (by kernel_rfl) rfl fun κ η => ?_); simp only [go_sem, simprocAttr]; (repeat refine ⟨by (first | omega | assumption | exact ⟨_, rfl⟩ | exact ⟨_, rfl, rfl⟩), ?_⟩); refine η _ ?_; clear η κ) | (refine zd (hK _ ?_); clear hE hK E K) | apply zb | (refine zH (hK _ ?_); clear hE hK E K) | apply zq | apply zi | apply zt | apply zk | apply zu | apply zw | refine zR rfl ?_ | apply zx | apply zy | apply zJ | apply zL | apply zs | apply zT | apply zX | apply zV | apply zM | apply zN | apply zO | ((first | apply zm | apply zQ); (first | apply zn | apply zS | apply zP); simp only [go_sem, simprocAttr])
  (first | refine za fun κ η => ?_ | refine zo rfl fun κ η => ?_ | refine zr (by kernel_rfl) fun κ η => ?_ | refine zK (by kernel_rfl) rfl fun κ η => ?_); simp only [go_sem, simprocAttr]; refine ⟨_, hc1, ?_⟩; simp only [go_sem, simprocAttr]; refine η _ ?_; clear η κ
  repeat' first | apply zg | apply zj | refine zf rfl fun K E hK hE => ?_ | refine zG rfl (by kernel_rfl) fun K E hK hE => ?_ | ((first | refine za fun κ η => ?_ | refine zo rfl fun κ η => ?_ | refine zr (by kernel_rfl) fun κ η => ?_ | refine zK (by kernel_rfl) rfl fun κ η => ?_); simp only [go_sem, simprocAttr]; (repeat refine ⟨by (first | omega | assumption | exact ⟨_, rfl⟩ | exact ⟨_, rfl, rfl⟩), ?_⟩); refine η _ ?_; clear η κ) | (refine zd (hK _ ?_); clear hE hK E K) | apply zb | (refine zH (hK _ ?_); clear hE hK E K) | apply zq | apply zi | apply zt | apply zk | apply zu | apply zw | refine zR rfl ?_ | apply zx | apply zy | apply zJ | apply zL | apply zs | apply zT | apply zX | apply zV | apply zM | apply zN | apply zO | ((first | apply zm | apply zQ); (first | apply zn | apply zS | apply zP); simp only [go_sem, simprocAttr])
 rw [if_neg c3, if_neg c3, if_pos (by omega), if_pos (by omega)]
 exact zmU Hy ins hl
theorem zis (g : Gt) (ins : List Bool) (hop : 0 ≤ g.op ∧ g.op ≤ 9) (hl : ins.length ≤ 1000000) {o : Nat → O} {R : List Nat} : Cd Tryz.prog Hy (zb3 g.op) [.t (bL ins)] o R [] (.t (.b (zbo g ins))) := by
 intro o2 _
 have := Cm.of_ct (o := o2) (zmp Hy g ins hop hl)
 exact this.mono (by rintro rs o' ⟨rfl, rfl⟩; exact ⟨rfl, rfl⟩)
theorem zmq {o : Nat → O} {q : Nat} {ins : List Bool} (ho : o 7202 = ⟨q, .cells 27 [.t (bL ins)]⟩) (r : Row) (hr : ins.length ≤ r.length ∧ r.length ≤ 1000000) : Cm Tryz.prog Hy 64 [.t (.s (mk r)), .ptr 7202 q 0] o fun rs o' => rs = [.t (.b (zan r ins))] ∧ o = o' := by
 have hf := zmS Hy r ins hr.1 hr.2
 simp only [bL] at ho hf
 refine zax (cls := _root_.id) zB zD Tryz.func64 rfl (by decide) (Nat.le_of_ble_eq_true rfl) ?_
 rw [show Tryz.f64.ntmps = 7 from rfl, zC]
 simp only [List.zipIdx_cons, List.zipIdx_nil, List.map_cons, List.map_nil, Nat.reduceAdd]
 repeat' first | apply zg | apply zj | refine zf rfl fun K E hK hE => ?_ | refine zG rfl (by kernel_rfl) fun K E hK hE => ?_ | ((first | refine za fun κ η => ?_ | refine zo rfl fun κ η => ?_ | refine zr (by kernel_rfl) fun κ η => ?_ | refine zK (by kernel_rfl) rfl fun κ η => ?_); simp only [go_sem, simprocAttr, ho]; (repeat refine ⟨by (first | omega | assumption | exact ⟨_, rfl⟩ | exact ⟨_, rfl, rfl⟩), ?_⟩); refine η _ ?_; clear η κ) | (refine zd (hK _ ?_); clear hE hK E K) | apply zb | (refine zH (hK _ ?_); clear hE hK E K) | apply zq | apply zi | apply zt | apply zk | apply zu | apply zw | refine zR rfl ?_ | apply zx | apply zy | apply zJ | apply zL | apply zs | apply zT | apply zX | apply zV | apply zM | apply zN | apply zO | ((first | apply zm | apply zQ); (first | apply zn | apply zS | apply zP); simp only [go_sem, simprocAttr, ho])
 (first | refine za fun κ η => ?_ | refine zo rfl fun κ η => ?_ | refine zr (by kernel_rfl) fun κ η => ?_ | refine zK (by kernel_rfl) rfl fun κ η => ?_); simp only [go_sem, simprocAttr]; refine ⟨_, hf, ?_⟩; simp only [go_sem, simprocAttr]; refine η _ ?_; clear η κ
 repeat' first | apply zg | apply zj | refine zf rfl fun K E hK hE => ?_ | refine zG rfl (by kernel_rfl) fun K E hK hE => ?_ | ((first | refine za fun κ η => ?_ | refine zo rfl fun κ η => ?_ | refine zr (by kernel_rfl) fun κ η => ?_ | refine zK (by kernel_rfl) rfl fun κ η => ?_); simp only [go_sem, simprocAttr]; (repeat refine ⟨by (first | omega | assumption | exact ⟨_, rfl⟩ | exact ⟨_, rfl, rfl⟩), ?_⟩); refine η _ ?_; clear η κ) | (refine zd (hK _ ?_); clear hE hK E K) | apply zb | (refine zH (hK _ ?_); clear hE hK E K) | apply zq | apply zi | apply zt | apply zk | apply zu | apply zw | refine zR rfl ?_ | apply zx | apply zy | apply zJ | apply zL | apply zs | apply zT | apply zX | apply zV | apply zM | apply zN | apply zO | ((first | apply zm | apply zQ); (first | apply zn | apply zS | apply zP); simp only [go_sem, simprocAttr])
def gC (g : Gt) : List A := [.t (.s g.name), .t (.i .i64 g.op), .t (sL g.ins), .t (rL g.rows), .t (.b g.off)]
theorem zit (g : Gt) (ins : List Bool) (hop : g.op = 10) (_hl : ins.length ≤ 1000000) (hrl : g.rows.length ≤ 1000000) (hr : ∀ r ∈ g.rows, ins.length ≤ r.length ∧ r.length ≤ 1000000) {o : Nat → O} {R : List Nat} {q : Nat} (ho : o 7101 = ⟨q, .cells 47 (gC g)⟩) (hR : 7101 ∈ R ∧ 7202 ∈ R) :
  Cd Tryz.prog Hy 63 [.t (bL ins), .ptr 7101 q 0] o R [(7202, ⟨(o 7202).gen + 1, .none⟩)] (.t (.b (zbo g ins))) := by
 intro o2 h2
 rw [← h2 7101 hR.1] at ho
 rw [← h2 7202 hR.2]
 clear h2
 have ha : zbo g ins = g.rows.any fun r => zan r ins := by
  unfold zbo
  rw [if_neg (by omega), if_neg (by omega), if_neg (by omega), if_neg (by omega)]
 rw [ha]
 clear ha hop
 obtain ⟨name, op, gi, rows, off⟩ := g
 simp only at hrl hr ⊢
 have hF : ∀ (o : Nat → O) (q : Nat), o 7202 = ⟨q, .cells 27 [.t (bL ins)]⟩ → Cm Tryz.prog Hy 53 [.t (rL rows), .fn 64 [] [.ptr 7202 q 0]] o fun rs o' => rs = [.t (.b (rows.any fun r => zan r ins))] ∧ o = o' := fun o q h =>
  zhU Hy hrl fun r hm => zmq Hy h r (hr r hm)
 simp only [gC, rL, sL] at ho hF
 refine Cm.settle (R := fun rs o' => rs = [.t (.b (rows.any fun r => zan r ins))] ∧ o' = fun j => zae ([] ++ [(7202, ⟨(o2 7202).gen + 1, .cells 27 [.t (bL ins)]⟩)]) j (o2 j)) ?_ (fun rs o' hr => ?_)
 ·simp only [bL] at hF ⊢
  refine zax (cls := fun d => 7200 + d) zB zD Tryz.func63 rfl (by decide) (Nat.le_of_ble_eq_true rfl) ?_
  rw [show Tryz.f63.ntmps = 8 from rfl, zC]
  simp only [List.zipIdx_cons, List.zipIdx_nil, List.map_cons, List.map_nil, Nat.reduceAdd]
  repeat' first | apply zg | apply zj | refine zf rfl fun K E hK hE => ?_ | refine zG rfl (by kernel_rfl) fun K E hK hE => ?_ | ((first | refine za fun κ η => ?_ | refine zo rfl fun κ η => ?_ | refine zr (by kernel_rfl) fun κ η => ?_ | refine zK (by kernel_rfl) rfl fun κ η => ?_); simp only [go_sem, simprocAttr, ho]; (repeat refine ⟨by (first | omega | assumption | exact ⟨_, rfl⟩ | exact ⟨_, rfl, rfl⟩), ?_⟩); refine η _ ?_; clear η κ) | (refine zd (hK _ ?_); clear hE hK E K) | apply zb | (refine zH (hK _ ?_); clear hE hK E K) | apply zq | apply zi | apply zt | apply zk | apply zu | apply zw | refine zR rfl ?_ | apply zx | apply zy | apply zJ | apply zL | apply zs | apply zT | apply zX | apply zV | apply zM | apply zN | apply zO | ((first | apply zm | apply zQ); (first | apply zn | apply zS | apply zP); simp only [go_sem, simprocAttr, ho])
  refine zaj fun κ η => ?_; simp only [go_sem, simprocAttr]; refine ⟨_, hF _ _ rfl, ?_⟩; rintro _ _ ⟨rfl, rfl⟩; simp only [go_sem, simprocAttr]; refine η _ ?_; clear η κ
  repeat' first | apply zg | apply zj | refine zf rfl fun K E hK hE => ?_ | refine zG rfl (by kernel_rfl) fun K E hK hE => ?_ | ((first | refine za fun κ η => ?_ | refine zo rfl fun κ η => ?_ | refine zr (by kernel_rfl) fun κ η => ?_ | refine zK (by kernel_rfl) rfl fun κ η => ?_); simp only [go_sem, simprocAttr]; (repeat refine ⟨by (first | omega | assumption | exact ⟨_, rfl⟩ | exact ⟨_, rfl, rfl⟩), ?_⟩); refine η _ ?_; clear η κ) | (refine zd (hK _ ?_); clear hE hK E K) | apply zb | (refine zH (hK _ ?_); clear hE hK E K) | apply zq | apply zi | apply zt | apply zk | apply zu | apply zw | refine zR rfl ?_ | apply zx | apply zy | apply zJ | apply zL | apply zs | apply zT | apply zX | apply zV | apply zM | apply zN | apply zO | ((first | apply zm | apply zQ); (first | apply zn | apply zS | apply zP); simp only [go_sem, simprocAttr])
  rfl
 ·obtain ⟨rfl, rfl⟩ := hr
  exact ⟨_, Stl.drop (Nat.le_refl _), rfl, zhL⟩
set_option maxHeartbeats 8000000 in
theorem ziu (g : Gt) (hop : opB g.op = true) {o : Nat → O} {R : List Nat} (hR : 7101 ∈ R ∧ 7102 ∈ R ∧ 7103 ∈ R) : Cd Tryz.prog Hy 37 [.ag (gC g)] o R [(7102, ⟨(o 7102).gen + 1, .none⟩), (7103, ⟨(o 7103).gen + 1, .none⟩), (7101, ⟨(o 7101).gen + 1, .cells 47 (gC g)⟩)]
  (.ag [.fn (zb3 g.op) [] (if g.op = 10 then [.ptr 7101 ((o 7101).gen + 1) 0] else []), .fn (zbJ g) [] []]) := by
 intro o2 h2
 rw [← h2 7101 hR.1, ← h2 7102 hR.2.1, ← h2 7103 hR.2.2]
 clear h2
 have hop := of_decide_eq_true hop
 obtain ⟨name, op, gi, rows, off⟩ := g
 have hn : op = 0 ∨ op = 1 ∨ op = 2 ∨ op = 3 ∨ op = 4 ∨ op = 5 ∨ op = 6 ∨ op = 7 ∨ op = 8 ∨ op = 9 ∨ op = 10 := by simp only at hop; omega
 clear hop hR
 refine Cm.near (own := [7102, 7103]) (c := 1) (up := [(7101, ⟨(o2 7101).gen + 1, .cells 47 (gC ⟨name, op, gi, rows, off⟩)⟩)]) ?_
 simp only [gC, sL, rL]
 have key : ∀ (n : Nat) (F : Nat → A) (ts : List (Nat × A)) (os : List (Nat × O)) (x : O), (∀ j, j ≠ 7101 → j ≠ 7102 → j ≠ 7103 → zae os j (o2 j) = o2 j) → zae os 7101 (o2 7101) = x → (zae os 7102 (o2 7102)).gen ≤ (o2 7102).gen + 1 → (zae os 7103 (o2 7103)).gen ≤ (o2 7103).gen + 1 → Nearly o2 [7102, 7103] 1 [(7101, x)] (nf n F o2 ts os).o := fun n F ts os x h0 h1 h2 h3 => ⟨fun j hj => by
   simp only [List.mem_cons, List.not_mem_nil, or_false, not_or] at hj
   rw [za7]
   by_cases e : j = 7101
   ·subst e; exact h1
   ·rw [h0 j e hj.1 hj.2]
    simp only [zae, e, if_false], fun j hj => by
   simp only [List.mem_cons, List.not_mem_nil, or_false] at hj
   rw [za7]
   rcases hj with rfl | rfl
   ·exact h2
   ·exact h3⟩
 have ca : ∀ o : Int, o = 10 → off = true → zbJ ⟨name, o, gi, rows, off⟩ = 57 := fun o h h2 => by rw [zbJ, zcj, h, h2]; rfl
 have cb : ∀ o : Int, o = 10 → off = false → zbJ ⟨name, o, gi, rows, off⟩ = 56 := fun o h h2 => by rw [zbJ, zcj, h, h2]; rfl
 refine zax (cls := fun d => 7100 + d) zB zD Tryz.func37 rfl (by decide) (Nat.le_of_ble_eq_true rfl) ?_
 rw [show Tryz.f37.ntmps = 41 from rfl, zC]
 simp only [List.zipIdx_cons, List.zipIdx_nil, List.map_cons, List.map_nil, Nat.reduceAdd]
 rcases hn with rfl | rfl | rfl | rfl | rfl | rfl | rfl | rfl | rfl | rfl | rfl
 rotate_right
 ·cases off with
  | true =>
   repeat' first | apply zg | apply zj | refine zf rfl fun K E hK hE => ?_ | refine zG rfl (by kernel_rfl) fun K E hK hE => ?_ | ((first | refine za fun κ η => ?_ | refine zo rfl fun κ η => ?_ | refine zr (by kernel_rfl) fun κ η => ?_ | refine zK (by kernel_rfl) rfl fun κ η => ?_); simp only [go_sem, simprocAttr, Int.reduceEq]; (repeat refine ⟨by (first | omega | assumption | exact ⟨_, rfl⟩ | exact ⟨_, rfl, rfl⟩), ?_⟩); refine η _ ?_; clear η κ) | (refine zd (hK _ ?_); clear hE hK E K) | apply zb | refine zh true rfl (fun _ => ?_) (fun h => (by cases h)) | refine zh false rfl (fun h => (by cases h)) fun _ => ?_ | (refine zH (hK _ ?_); clear hE hK E K) | apply zq | apply zi | apply zt | apply zk | apply zu | apply zw | refine zR rfl ?_ | apply zx | apply zy | apply zJ | apply zL | apply zs | apply zT | apply zX | apply zV | apply zM | apply zN | apply zO | ((first | apply zm | apply zQ); (first | apply zn | apply zS | apply zP); simp only [go_sem, simprocAttr, Int.reduceEq])
   exact ⟨by rw [ca 10 rfl rfl]; rfl, key _ _ _ _ _ (fun j h1 h2 h3 => by simp only [zae, h1, h2, h3, if_false]) rfl (Nat.le_refl _) (Nat.le_refl _)⟩
  | false =>
   repeat' first | apply zg | apply zj | refine zf rfl fun K E hK hE => ?_ | refine zG rfl (by kernel_rfl) fun K E hK hE => ?_ | ((first | refine za fun κ η => ?_ | refine zo rfl fun κ η => ?_ | refine zr (by kernel_rfl) fun κ η => ?_ | refine zK (by kernel_rfl) rfl fun κ η => ?_); simp only [go_sem, simprocAttr, Int.reduceEq]; (repeat refine ⟨by (first | omega | assumption | exact ⟨_, rfl⟩ | exact ⟨_, rfl, rfl⟩), ?_⟩); refine η _ ?_; clear η κ) | (refine zd (hK _ ?_); clear hE hK E K) | apply zb | refine zh true rfl (fun _ => ?_) (fun h => (by cases h)) | refine zh false rfl (fun h => (by cases h)) fun _ => ?_ | (refine zH (hK _ ?_); clear hE hK E K) | apply zq | apply zi | apply zt | apply zk | apply zu | apply zw | refine zR rfl ?_ | apply zx | apply zy | apply zJ | apply zL | apply zs | apply zT | apply zX | apply zV | apply zM | apply zN | apply zO | ((first | apply zm | apply zQ); (first | apply zn | apply zS | apply zP); simp only [go_sem, simprocAttr, Int.reduceEq])
   exact ⟨by rw [cb 10 rfl rfl]; rfl, key _ _ _ _ _ (fun j h1 h2 h3 => by simp only [zae, h1, h2, h3, if_false]) rfl (Nat.le_refl _) (Nat.le_refl _)⟩
 all_goals (
  repeat' first | apply zg | apply zj | refine zf rfl fun K E hK hE => ?_ | refine zG rfl (by kernel_rfl) fun K E hK hE => ?_ | ((first | refine za fun κ η => ?_ | refine zo rfl fun κ η => ?_ | refine zr (by kernel_rfl) fun κ η => ?_ | refine zK (by kernel_rfl) rfl fun κ η => ?_); simp only [go_sem, simprocAttr, Int.reduceEq]; (repeat refine ⟨by (first | omega | assumption | exact ⟨_, rfl⟩ | exact ⟨_, rfl, rfl⟩), ?_⟩); refine η _ ?_; clear η κ) | (refine zd (hK _ ?_); clear hE hK E K) | apply zb | refine zh true rfl (fun _ => ?_) (fun h => (by cases h)) | refine zh false rfl (fun h => (by cases h)) fun _ => ?_ | (refine zH (hK _ ?_); clear hE hK E K) | apply zq | apply zi | apply zt | apply zk | apply zu | apply zw | refine zR rfl ?_ | apply zx | apply zy | apply zJ | apply zL | apply zs | apply zT | apply zX | apply zV | apply zM | apply zN | apply zO | ((first | apply zm | apply zQ); (first | apply zn | apply zS | apply zP); simp only [go_sem, simprocAttr, Int.reduceEq])
  exact ⟨rfl, key _ _ _ _ _ (fun j h1 h2 h3 => by simp only [zae, h1, h2, h3, if_false]) rfl (Nat.le_refl _) (Nat.le_refl _)⟩)
end Go.Proofs.YtbhoeanfnbkenaaGreatDoor
