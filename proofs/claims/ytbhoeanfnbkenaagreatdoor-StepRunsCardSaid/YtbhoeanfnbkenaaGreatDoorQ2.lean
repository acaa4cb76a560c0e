import Derived.Test.YtbhoeanfnbkenaaGreatDoorQ1
namespace Go.Proofs.YtbhoeanfnbkenaaGreatDoor
open Go.RowKit Go.WideMaps Go.Lib
set_option maxRecDepth 100000
set_option linter.unusedSimpArgs false
variable (Hy : World → Prop)
attribute [local irreducible] zU zY cwp z1 z6 lpQ z8 asQ bdQ bdY zab zac zad zaa
structure Gt where
 name : ByteArray
 op : Int
 ins : List ByteArray
 rows : List Row
 off : Bool
 deriving DecidableEq
def gE (g : Gt) : List T := [.s g.name, .i .i64 g.op, sL g.ins, rL g.rows, .b g.off]
def zbd (n : Int) (r : Row) : Bool := decide ((r.length : Int) = n) && r.all fun c => c == 48 || (c == 49 || c == 45)
theorem zlr (r : Row) (n : Int) (hn : n ≤ 1000000) : Ct Tryz.prog Hy 55 [.s (mk r), .i .i64 n] [.b (zbd n r)] := by
 have hc3 : (⟨#[48, 49, 45]⟩ : ByteArray) = mk [48, 49, 45] := rfl
 by_cases d1 : (r.length : Int) = n
 ·have ht := zk9 Hy r [48, 49, 45] (by omega) (by decide) (by decide)
  have d1' : ((r.length : Int) = n) = True := eq_true d1
  have hb : decide (trimS r [48, 49, 45] = []) = zbd n r := by
   rw [zbd, decide_eq_true d1, Bool.true_and, Bool.eq_iff_iff, decide_eq_true_eq, List.all_eq_true, zk6]
   simp
  refine zI (cls := _root_.id) zB zD Tryz.func55 rfl (by decide) (Nat.le_of_ble_eq_true rfl) ?_
  rw [show Tryz.f55.ntmps = 14 from rfl, zC]
  simp only [List.zipIdx_cons, List.zipIdx_nil, List.map_cons, List.map_nil, Nat.reduceAdd]
  repeat' first | apply zg | refine zf rfl fun K E hK hE => ?_ | ((first | refine za fun κ η => ?_ | refine zo rfl fun κ η => ?_); simp only [go_sem, simprocAttr, zbI, d1', hc3]; refine η _ ?_; clear η κ) | (refine zd (hK _ ?_); clear hE hK E K) | apply zb
  refine zo rfl fun κ η => ?_; simp only [go_sem, simprocAttr]; refine ⟨_, ht, ?_⟩; simp only [go_sem, simprocAttr]; refine η _ ?_; clear η κ
  repeat' first | ((first | refine za fun κ η => ?_ | refine zo rfl fun κ η => ?_); simp only [go_sem, simprocAttr, zhK, hb]; refine η _ ?_; clear η κ) | (refine zd (hK _ ?_); clear hE hK E K) | apply zb | apply zk | (apply zm; apply zn; simp only [go_sem, simprocAttr, zhK, hb])
 ·have d1' : ((r.length : Int) = n) = False := eq_false d1
  have hb : zbd n r = false := by rw [zbd, decide_eq_false d1]; rfl
  refine zI (cls := _root_.id) zB zD Tryz.func55 rfl (by decide) (Nat.le_of_ble_eq_true rfl) ?_
  rw [show Tryz.f55.ntmps = 14 from rfl, zC]
  simp only [List.zipIdx_cons, List.zipIdx_nil, List.map_cons, List.map_nil, Nat.reduceAdd]
  repeat' first | apply zg | refine zf rfl fun K E hK hE => ?_ | ((first | refine za fun κ η => ?_ | refine zo rfl fun κ η => ?_); simp only [go_sem, simprocAttr, zbI, d1']; refine η _ ?_; clear η κ) | (refine zd (hK _ ?_); clear hE hK E K) | apply zb | apply zk | (apply zm; apply zn; simp only [go_sem, simprocAttr, zbI, d1'])
  rw [hb]
theorem zhU {f : FuncId} {caps : List A} {o : Nat → O} {p : Row → Bool} {l : List Row} (hl : l.length ≤ 1000000) (h : Fn Hy f caps o (fun x : Row => [.t (.s (mk x))]) p l) :
  Cm Tryz.prog Hy 53 [.t (rL l), .fn f [] caps] o fun rs o' => rs = [.t (.b (l.any p))] ∧ o = o' := by
 refine zax (cls := _root_.id) zB zD Tryz.func53 rfl (by decide) (Nat.le_of_ble_eq_true rfl) ?_
 rw [show Tryz.f53.ntmps = 9 from rfl, zC]
 simp only [List.zipIdx_cons, List.zipIdx_nil, List.map_cons, List.map_nil, Nat.reduceAdd]
 repeat' first | apply zg | refine zf rfl fun K E hK hE => ?_ | (refine za fun κ η => ?_; simp only [go_sem, simprocAttr]; refine η _ ?_; clear η κ) | (refine zd (hK _ ?_); clear hE hK E K) | apply zb
 refine zaj fun κ η => ?_; simp only [go_sem, simprocAttr]; refine ⟨_, zla Hy hl h, ?_⟩; rintro _ _ ⟨rfl, rfl⟩; simp only [go_sem, simprocAttr]; refine η _ ?_; clear η κ
 repeat' first | (refine za fun κ η => ?_; simp only [go_sem, simprocAttr, zer]; refine η _ ?_; clear η κ) | (refine zd (hK _ ?_); clear hE hK E K) | apply zb | apply zk | (apply zm; apply zn; simp only [go_sem, simprocAttr, zer])
def loF (op : Int) : Int := if op ≤ 1 then 0 else if op ≤ 3 then 1 else if op ≤ 9 then 2 else 0
def hiF (op : Int) : Int := if op ≤ 1 then 0 else if op ≤ 3 then 1 else 8
def arP (a b : Int) : A := .ag [.t (.i .i64 a), .t (.i .i64 b)]
def arE : List (Ky × A) := [(.i .i64 0, arP 0 0), (.i .i64 1, arP 0 0), (.i .i64 2, arP 1 1), (.i .i64 3, arP 1 1), (.i .i64 4, arP 2 8), (.i .i64 5, arP 2 8), (.i .i64 6, arP 2 8), (.i .i64 7, arP 2 8), (.i .i64 8, arP 2 8), (.i .i64 9, arP 2 8), (.i .i64 10, arP 0 8)]
def opB (op : Int) : Bool := decide (0 ≤ op ∧ op ≤ 10)
theorem zls {op : Int} (h : opB op = true) : zam arE (.i .i64 op) = some (arP (loF op) (hiF op)) := by
 have h := of_decide_eq_true h
 obtain ⟨n, rfl⟩ : ∃ n : Nat, op = n := ⟨op.toNat, by omega⟩
 have : n = 0 ∨ n = 1 ∨ n = 2 ∨ n = 3 ∨ n = 4 ∨ n = 5 ∨ n = 6 ∨ n = 7 ∨ n = 8 ∨ n = 9 ∨ n = 10 := by omega
 rcases this with rfl | rfl | rfl | rfl | rfl | rfl | rfl | rfl | rfl | rfl | rfl <;> rfl
theorem zlt {op : Int} (h : opB op = false) : zam arE (.i .i64 op) = none := by
 have h := of_decide_eq_false h
 unfold zam
 rw [List.find?_eq_none.2]
 ·rfl
 ·intro p hp
  simp only [arE, List.mem_cons, List.not_mem_nil, or_false] at hp
  rcases hp with rfl | rfl | rfl | rfl | rfl | rfl | rfl | rfl | rfl | rfl | rfl <;> simp <;> omega
theorem zlu {ky : Ky} (hk : ky.ok (.int .i64)) : ∃ l, keyOf Tryz.prog 45 ky.v = some l := by
 cases ky with
 | i k n =>
  obtain ⟨rfl, h⟩ := hk
  exact ⟨_, Go.Maps.keyOf_int_mk Tryz.underlying45 (zlb h)⟩
 | s x => exact hk.elim
 | a k l => exact hk.elim
theorem zhV : MLaw Tryz.prog tt 89 45 87 where
 und := Tryz.underlying89
 keyed := Go.Maps.int_keyed Tryz.underlying45
 key := fun ky hk => zlu hk
 zero := ⟨.agg #[.int .i64 0, .int .i64 0], fun w => by
  obtain ⟨i, z, i1, _, _, i4, _⟩ := (zB 87 _ rfl).info
  have e : Tryz.prog.info? 87 = some i := i1
  have hz : (Tryz.prog.info? 87).bind (·.zero) = some (.agg #[.int .i64 0, .int .i64 0]) := by kernel_rfl
  rw [e, Option.bind_some] at hz
  simp [zeroValue, zdt e, hz], fun w D o ι => .ag #[.int .i64 0, .int .i64 0] [.t (.i .i64 0), .t (.i .i64 0)] (fun _ => .int .i64 0) rfl (fun j hj => by
   have : j = 0 ∨ j = 1 := by simp at hj; omega
   rcases this with rfl | rfl <;> rfl) (fun j x hx => by
   have hj : j = 0 ∨ j = 1 := by have := (List.getElem?_eq_some_iff.1 hx).1; simp at this; omega
   rcases hj with rfl | rfl <;> (cases hx; rfl)) (fun j x hx => by
   have hj : j = 0 ∨ j = 1 := by have := (List.getElem?_eq_some_iff.1 hx).1; simp at this; omega
   rcases hj with rfl | rfl <;> (cases hx; exact .t (.i .i64 0)))⟩
theorem za7 (n : Nat) (F : Nat → A) (G : Nat → O) (ts : List (Nat × A)) (os : List (Nat × O)) (j : Nat) : (nf n F G ts os).o j = zae os j (G j) := rfl
set_option maxHeartbeats 2000000 in
theorem zcV {o : Nat → O} {R : List Nat} (hR : 7001 ∈ R ∧ 7003 ∈ R) : Cd Tryz.prog Hy 52 [] o R [(7001, ⟨(o 7001).gen + 1, .none⟩), (7003, ⟨(o 7003).gen + 1, .map (.int .i64) arE⟩)] (.row 7003 ((o 7003).gen + 1)) := by
 intro o2 ho
 rw [← ho 7001 hR.1, ← ho 7003 hR.2]
 clear ho
 refine Cm.settle (R := fun rs o' => rs = [.row 7003 ((o2 7003).gen + 1)] ∧ o' = fun j => zae ([(7003, ⟨(o2 7003).gen + 1, .map (.int .i64) arE⟩)] ++ [(7001, ⟨(o2 7001).gen + 1, .cells 87 [.t (.i .i64 2), .t (.i .i64 8)]⟩)]) j (o2 j)) ?_ (fun rs o' hr => ?_)
 ·have hM := zhV
  have hks : zaS tt 45 = .int .i64 := rfl
  refine zax (cls := fun d => 7000 + d) zB zD Tryz.func52 rfl (by decide) (Nat.le_of_ble_eq_true rfl) ?_
  rw [show Tryz.f52.ntmps = 16 from rfl, zC]
  simp only [List.zipIdx_cons, List.zipIdx_nil, List.map_cons, List.map_nil, Nat.reduceAdd]
  repeat' first | apply zg | refine zf rfl fun K E hK hE => ?_ | (refine za fun κ η => ?_; simp only [go_sem, simprocAttr, hks, Ky.ok, inR, Int.reduceLE, Int.reduceNeg, and_self, zaE, List.map_cons, List.map_nil, List.mem_cons, List.not_mem_nil, Ky.i.injEq, true_and, Int.reduceEq, or_false, or_self, List.cons_append, List.nil_append]; (repeat refine ⟨by omega, ?_⟩); refine η _ ?_; clear η κ) | (refine zd (hK _ ?_); clear hE hK E K) | apply zb | apply zk | (apply zm; apply zn; simp only [go_sem, simprocAttr, hks, Ky.ok, inR, Int.reduceLE, Int.reduceNeg, and_self, zaE, List.map_cons, List.map_nil, List.mem_cons, List.not_mem_nil, Ky.i.injEq, true_and, Int.reduceEq, or_false, or_self, List.cons_append, List.nil_append])
  refine funext fun j => ?_
  rw [za7]
  by_cases h : j = 7003
  ·subst h; rfl
  by_cases h2 : j = 7001
  ·subst h2; rfl
  simp only [zae, h, h2, if_false, List.cons_append, List.nil_append]
 ·obtain ⟨rfl, rfl⟩ := hr
  exact ⟨_, Stl.drop (Nat.le_refl _), rfl, zhL⟩
def zaM (g : Gt) : Bool := opB g.op && (decide (loF g.op ≤ g.ins.length ∧ (g.ins.length : Int) ≤ hiF g.op) && (if g.op = 10 then decide (g.rows.length ≤ 128) && g.rows.all (zbd g.ins.length) else decide (g.rows = []) && !g.off))
theorem zlv {o : Nat → O} {q : Nat} {ty : TypeId} {name : ByteArray} {op : Int} {ins : List ByteArray} {rw_ : T} {off : Bool} (ho : o 1 = ⟨q, .cells ty [.t (.s name), .t (.i .i64 op), .t (sL ins), .t rw_, .t (.b off)]⟩) (r : Row) (hi : ins.length ≤ 1000000) :
  Cm Tryz.prog Hy 54 [.t (.s (mk r)), .ptr 1 q 0] o fun rs o' => rs = [.t (.b (!zbd ins.length r))] ∧ o = o' := by
 have hi := zlr Hy r ins.length (by omega)
 simp only [sL] at ho
 refine zax (cls := _root_.id) zB zD Tryz.func54 rfl (by decide) (Nat.le_of_ble_eq_true rfl) ?_
 rw [show Tryz.f54.ntmps = 10 from rfl, zC]
 simp only [List.zipIdx_cons, List.zipIdx_nil, List.map_cons, List.map_nil, Nat.reduceAdd]
 repeat' first | apply zg | refine zf rfl fun K E hK hE => ?_ | (refine za fun κ η => ?_; simp only [go_sem, simprocAttr, ho]; (repeat refine ⟨by omega, ?_⟩); refine η _ ?_; clear η κ) | (refine zd (hK _ ?_); clear hE hK E K) | apply zb
 refine za fun κ η => ?_; simp only [go_sem, simprocAttr]; refine ⟨_, hi, ?_⟩; simp only [go_sem, simprocAttr]; refine η _ ?_; clear η κ
 repeat' first | (refine za fun κ η => ?_; simp only [go_sem, simprocAttr]; refine η _ ?_; clear η κ) | (refine zd (hK _ ?_); clear hE hK E K) | apply zb | apply zk | (apply zm; apply zn; simp only [go_sem, simprocAttr])
set_option maxHeartbeats 4000000 in
theorem zhW (g : Gt) (hop : inR .i64 g.op) (hi : g.ins.length ≤ 1000000) (hrl : g.rows.length ≤ 1000000) : Ct Tryz.prog Hy 36 [.ag (gE g)] [.b (zaM g)] := by
 obtain ⟨name, op, ins, rows, off⟩ := g
 simp only at hop hi hrl
 have hM := zhV
 have hks : zaS tt 45 = .int .i64 := rfl
 have hoi : -9223372036854775808 ≤ op ∧ op ≤ 9223372036854775807 := hop
 cases ho : opB op with
 | false =>
  have hg := zlt ho
  have hb : zaM ⟨name, op, ins, rows, off⟩ = false := by unfold zaM; rw [ho]; rfl
  rw [hb]
  refine zI (cls := _root_.id) zB zD Tryz.func36 rfl (by decide) (Nat.le_of_ble_eq_true rfl) ?_
  rw [show Tryz.f36.ntmps = 53 from rfl, zC]
  simp only [List.zipIdx_cons, List.zipIdx_nil, List.map_cons, List.map_nil, Nat.reduceAdd, gE, sL, rL]
  repeat' first | apply zg | refine zf rfl fun K E hK hE => ?_ | refine zG rfl (by kernel_rfl) fun K E hK hE => ?_ | ((first | refine za fun κ η => ?_ | refine zr (by kernel_rfl) fun κ η => ?_); simp only [go_sem, simprocAttr]; refine η _ ?_; clear η κ) | (refine zd (hK _ ?_); clear hE hK E K) | apply zb
  refine zbm (R := []) (W := [7001, 7003]) (by kernel_rfl) fun κ η => ?_; simp only [go_sem, simprocAttr]; refine ⟨_, _, ?wr_, zcV Hy ⟨by simp, by simp⟩, ?_⟩; (case wr_ => rfl); (try simp only [go_sem, simprocAttr]); refine η _ ?_; clear η κ
  repeat' first | apply zg | refine zf rfl fun K E hK hE => ?_ | ((first | refine za fun κ η => ?_ | refine zo rfl fun κ η => ?_ | refine zr (by kernel_rfl) fun κ η => ?_); simp only [go_sem, simprocAttr, hks, Ky.ok, inR, hoi, hg]; (repeat refine ⟨by omega, ?_⟩); refine η _ ?_; clear η κ) | (refine zd (hK _ ?_); clear hE hK E K) | apply zb | refine zh true rfl (fun _ => ?_) (fun h => (by cases h)) | (refine zH (hK _ ?_); clear hE hK E K) | apply zk | apply zy | (apply zm; apply zn; simp only [go_sem, simprocAttr, hks, Ky.ok, inR, hoi, hg])
 | true =>
  have hg := zls ho
  have hor := of_decide_eq_true ho
  unfold zaM
  simp only [ho, Bool.true_and]
  generalize loF op = lo at *
  generalize hiF op = hi2 at *
  unfold arP at hg
  by_cases hin : lo ≤ ins.length ∧ (ins.length : Int) ≤ hi2
  ·have c1 : ((ins.length : Int) < lo) = False := eq_false (by omega)
   have c2 : (hi2 < (ins.length : Int)) = False := eq_false (by omega)
   rw [decide_eq_true hin, Bool.true_and]
   by_cases h10 : op = 10
   ·subst h10
    rw [if_pos rfl]
    by_cases hl : rows.length ≤ 128
    ·have c3 : ((rows.length : Int) ≤ 128) = True := eq_true (by omega)
     rw [decide_eq_true hl, Bool.true_and]
     have hF : ∀ (o : Nat → O) (q : Nat), o 1 = ⟨q, .cells 47 [.t (.s name), .t (.i .i64 10), .t (sL ins), .t (rL rows), .t (.b off)]⟩ → Cm Tryz.prog Hy 53 [.t (rL rows), .fn 54 [] [.ptr 1 q 0]] o fun rs o' => rs = [.t (.b (rows.any fun r => !zbd ins.length r))] ∧ o = o' := fun o q h =>
      zhU Hy hrl fun r hm => zlv Hy h r hi
     have hb : (!rows.any fun r => !zbd ins.length r) = rows.all (zbd ins.length) := by simp [List.all_eq_not_any_not]
     rw [← hb]
     simp only [rL, sL] at hF
     refine zI (cls := _root_.id) zB zD Tryz.func36 rfl (by decide) (Nat.le_of_ble_eq_true rfl) ?_
     rw [show Tryz.f36.ntmps = 53 from rfl, zC]
     simp only [List.zipIdx_cons, List.zipIdx_nil, List.map_cons, List.map_nil, Nat.reduceAdd, gE, sL, rL]
     repeat' first | apply zg | refine zf rfl fun K E hK hE => ?_ | refine zG rfl (by kernel_rfl) fun K E hK hE => ?_ | ((first | refine za fun κ η => ?_ | refine zr (by kernel_rfl) fun κ η => ?_); simp only [go_sem, simprocAttr]; refine η _ ?_; clear η κ) | (refine zd (hK _ ?_); clear hE hK E K) | apply zb
     refine zbm (R := []) (W := [7001, 7003]) (by kernel_rfl) fun κ η => ?_; simp only [go_sem, simprocAttr]; refine ⟨_, _, ?wr_, zcV Hy ⟨by simp, by simp⟩, ?_⟩; (case wr_ => rfl); (try simp only [go_sem, simprocAttr]); refine η _ ?_; clear η κ
     repeat' first | apply zg | refine zf rfl fun K E hK hE => ?_ | ((first | refine za fun κ η => ?_ | refine zo rfl fun κ η => ?_ | refine zr (by kernel_rfl) fun κ η => ?_); simp only [go_sem, simprocAttr, hks, Ky.ok, inR, Int.reduceLE, Int.reduceNeg, and_self, hg, c1, c2, c3]; (repeat refine ⟨by omega, ?_⟩); refine η _ ?_; clear η κ) | (refine zd (hK _ ?_); clear hE hK E K) | apply zb | refine zh false rfl (fun h => (by cases h)) fun _ => ?_ | (refine zH (hK _ ?_); clear hE hK E K) | apply zi
     refine zaj fun κ η => ?_; simp only [go_sem, simprocAttr]; refine ⟨_, hF _ _ rfl, ?_⟩; rintro _ _ ⟨rfl, rfl⟩; simp only [go_sem, simprocAttr]; refine η _ ?_; clear η κ
     repeat' first | ((first | refine za fun κ η => ?_ | refine zo rfl fun κ η => ?_); simp only [go_sem, simprocAttr]; refine η _ ?_; clear η κ) | (refine zd (hK _ ?_); clear hE hK E K) | apply zb | apply zk | (apply zm; apply zn; simp only [go_sem, simprocAttr])
    ·have c3 : ((rows.length : Int) ≤ 128) = False := eq_false (by omega)
     rw [decide_eq_false hl, Bool.false_and]
     refine zI (cls := _root_.id) zB zD Tryz.func36 rfl (by decide) (Nat.le_of_ble_eq_true rfl) ?_
     rw [show Tryz.f36.ntmps = 53 from rfl, zC]
     simp only [List.zipIdx_cons, List.zipIdx_nil, List.map_cons, List.map_nil, Nat.reduceAdd, gE, sL, rL]
     repeat' first | apply zg | refine zf rfl fun K E hK hE => ?_ | refine zG rfl (by kernel_rfl) fun K E hK hE => ?_ | ((first | refine za fun κ η => ?_ | refine zr (by kernel_rfl) fun κ η => ?_); simp only [go_sem, simprocAttr]; refine η _ ?_; clear η κ) | (refine zd (hK _ ?_); clear hE hK E K) | apply zb
     refine zbm (R := []) (W := [7001, 7003]) (by kernel_rfl) fun κ η => ?_; simp only [go_sem, simprocAttr]; refine ⟨_, _, ?wr_, zcV Hy ⟨by simp, by simp⟩, ?_⟩; (case wr_ => rfl); (try simp only [go_sem, simprocAttr]); refine η _ ?_; clear η κ
     repeat' first | apply zg | refine zf rfl fun K E hK hE => ?_ | ((first | refine za fun κ η => ?_ | refine zo rfl fun κ η => ?_ | refine zr (by kernel_rfl) fun κ η => ?_); simp only [go_sem, simprocAttr, hks, Ky.ok, inR, Int.reduceLE, Int.reduceNeg, and_self, hg, c1, c2, c3]; (repeat refine ⟨by omega, ?_⟩); refine η _ ?_; clear η κ) | (refine zd (hK _ ?_); clear hE hK E K) | apply zb | refine zh false rfl (fun h => (by cases h)) fun _ => ?_ | (refine zH (hK _ ?_); clear hE hK E K) | apply zi | apply zk | (apply zm; apply zn; simp only [go_sem, simprocAttr, hks, Ky.ok, inR, Int.reduceLE, Int.reduceNeg, and_self, hg, c1, c2, c3])
   ·rw [if_neg h10]
    have c4 : (op = 10) = False := eq_false h10
    by_cases hrw : rows = []
    ·subst hrw
     rw [decide_eq_true rfl, Bool.true_and]
     refine zI (cls := _root_.id) zB zD Tryz.func36 rfl (by decide) (Nat.le_of_ble_eq_true rfl) ?_
     rw [show Tryz.f36.ntmps = 53 from rfl, zC]
     simp only [List.zipIdx_cons, List.zipIdx_nil, List.map_cons, List.map_nil, Nat.reduceAdd, gE, sL, rL, List.map_nil]
     repeat' first | apply zg | refine zf rfl fun K E hK hE => ?_ | refine zG rfl (by kernel_rfl) fun K E hK hE => ?_ | ((first | refine za fun κ η => ?_ | refine zr (by kernel_rfl) fun κ η => ?_); simp only [go_sem, simprocAttr]; refine η _ ?_; clear η κ) | (refine zd (hK _ ?_); clear hE hK E K) | apply zb
     refine zbm (R := []) (W := [7001, 7003]) (by kernel_rfl) fun κ η => ?_; simp only [go_sem, simprocAttr]; refine ⟨_, _, ?wr_, zcV Hy ⟨by simp, by simp⟩, ?_⟩; (case wr_ => rfl); (try simp only [go_sem, simprocAttr]); refine η _ ?_; clear η κ
     repeat' first | apply zg | refine zf rfl fun K E hK hE => ?_ | ((first | refine za fun κ η => ?_ | refine zo rfl fun κ η => ?_ | refine zr (by kernel_rfl) fun κ η => ?_); simp only [go_sem, simprocAttr, hks, Ky.ok, inR, hoi, hg, c1, c2, c4, List.length_nil, Int.natCast_zero]; (repeat refine ⟨by omega, ?_⟩); refine η _ ?_; clear η κ) | (refine zd (hK _ ?_); clear hE hK E K) | apply zb | refine zh true rfl (fun _ => ?_) (fun h => (by cases h)) | refine zh false rfl (fun h => (by cases h)) fun _ => ?_ | (refine zH (hK _ ?_); clear hE hK E K) | apply zi | apply zk | apply zy | (apply zm; apply zn; simp only [go_sem, simprocAttr, hks, Ky.ok, inR, hoi, hg, c1, c2, c4, List.length_nil, Int.natCast_zero])
    ·have c5 : ((rows.length : Int) = 0) = False := eq_false (by have := List.length_pos_iff.2 hrw; omega)
     rw [decide_eq_false hrw, Bool.false_and]
     refine zI (cls := _root_.id) zB zD Tryz.func36 rfl (by decide) (Nat.le_of_ble_eq_true rfl) ?_
     rw [show Tryz.f36.ntmps = 53 from rfl, zC]
     simp only [List.zipIdx_cons, List.zipIdx_nil, List.map_cons, List.map_nil, Nat.reduceAdd, gE, sL, rL]
     repeat' first | apply zg | refine zf rfl fun K E hK hE => ?_ | refine zG rfl (by kernel_rfl) fun K E hK hE => ?_ | ((first | refine za fun κ η => ?_ | refine zr (by kernel_rfl) fun κ η => ?_); simp only [go_sem, simprocAttr]; refine η _ ?_; clear η κ) | (refine zd (hK _ ?_); clear hE hK E K) | apply zb
     refine zbm (R := []) (W := [7001, 7003]) (by kernel_rfl) fun κ η => ?_; simp only [go_sem, simprocAttr]; refine ⟨_, _, ?wr_, zcV Hy ⟨by simp, by simp⟩, ?_⟩; (case wr_ => rfl); (try simp only [go_sem, simprocAttr]); refine η _ ?_; clear η κ
     repeat' first | apply zg | refine zf rfl fun K E hK hE => ?_ | ((first | refine za fun κ η => ?_ | refine zo rfl fun κ η => ?_ | refine zr (by kernel_rfl) fun κ η => ?_); simp only [go_sem, simprocAttr, hks, Ky.ok, inR, hoi, hg, c1, c2, c4, c5]; (repeat refine ⟨by omega, ?_⟩); refine η _ ?_; clear η κ) | (refine zd (hK _ ?_); clear hE hK E K) | apply zb | refine zh true rfl (fun _ => ?_) (fun h => (by cases h)) | refine zh false rfl (fun h => (by cases h)) fun _ => ?_ | (refine zH (hK _ ?_); clear hE hK E K) | apply zi | apply zk | apply zy | (apply zm; apply zn; simp only [go_sem, simprocAttr, hks, Ky.ok, inR, hoi, hg, c1, c2, c4, c5])
  ·rw [decide_eq_false hin, Bool.false_and]
   by_cases d1 : (ins.length : Int) < lo
   ·refine zI (cls := _root_.id) zB zD Tryz.func36 rfl (by decide) (Nat.le_of_ble_eq_true rfl) ?_
    rw [show Tryz.f36.ntmps = 53 from rfl, zC]
    simp only [List.zipIdx_cons, List.zipIdx_nil, List.map_cons, List.map_nil, Nat.reduceAdd, gE, sL, rL]
    repeat' first | apply zg | refine zf rfl fun K E hK hE => ?_ | refine zG rfl (by kernel_rfl) fun K E hK hE => ?_ | ((first | refine za fun κ η => ?_ | refine zr (by kernel_rfl) fun κ η => ?_); simp only [go_sem, simprocAttr]; refine η _ ?_; clear η κ) | (refine zd (hK _ ?_); clear hE hK E K) | apply zb
    refine zbm (R := []) (W := [7001, 7003]) (by kernel_rfl) fun κ η => ?_; simp only [go_sem, simprocAttr]; refine ⟨_, _, ?wr_, zcV Hy ⟨by simp, by simp⟩, ?_⟩; (case wr_ => rfl); (try simp only [go_sem, simprocAttr]); refine η _ ?_; clear η κ
    repeat' first | apply zg | refine zf rfl fun K E hK hE => ?_ | ((first | refine za fun κ η => ?_ | refine zo rfl fun κ η => ?_ | refine zr (by kernel_rfl) fun κ η => ?_); simp only [go_sem, simprocAttr, hks, Ky.ok, inR, hoi, hg, eq_true d1]; (repeat refine ⟨by omega, ?_⟩); refine η _ ?_; clear η κ) | (refine zd (hK _ ?_); clear hE hK E K) | apply zb | refine zh true rfl (fun _ => ?_) (fun h => (by cases h)) | (refine zH (hK _ ?_); clear hE hK E K) | apply zk | apply zy | (apply zm; apply zn; simp only [go_sem, simprocAttr, hks, Ky.ok, inR, hoi, hg, eq_true d1])
   ·refine zI (cls := _root_.id) zB zD Tryz.func36 rfl (by decide) (Nat.le_of_ble_eq_true rfl) ?_
    rw [show Tryz.f36.ntmps = 53 from rfl, zC]
    simp only [List.zipIdx_cons, List.zipIdx_nil, List.map_cons, List.map_nil, Nat.reduceAdd, gE, sL, rL]
    repeat' first | apply zg | refine zf rfl fun K E hK hE => ?_ | refine zG rfl (by kernel_rfl) fun K E hK hE => ?_ | ((first | refine za fun κ η => ?_ | refine zr (by kernel_rfl) fun κ η => ?_); simp only [go_sem, simprocAttr]; refine η _ ?_; clear η κ) | (refine zd (hK _ ?_); clear hE hK E K) | apply zb
    refine zbm (R := []) (W := [7001, 7003]) (by kernel_rfl) fun κ η => ?_; simp only [go_sem, simprocAttr]; refine ⟨_, _, ?wr_, zcV Hy ⟨by simp, by simp⟩, ?_⟩; (case wr_ => rfl); (try simp only [go_sem, simprocAttr]); refine η _ ?_; clear η κ
    repeat' first | apply zg | refine zf rfl fun K E hK hE => ?_ | ((first | refine za fun κ η => ?_ | refine zo rfl fun κ η => ?_ | refine zr (by kernel_rfl) fun κ η => ?_); simp only [go_sem, simprocAttr, hks, Ky.ok, inR, hoi, hg, eq_false d1, eq_true (show hi2 < (ins.length : Int) by omega)]; (repeat refine ⟨by omega, ?_⟩); refine η _ ?_; clear η κ) | (refine zd (hK _ ?_); clear hE hK E K) | apply zb | refine zh true rfl (fun _ => ?_) (fun h => (by cases h)) | (refine zH (hK _ ?_); clear hE hK E K) | apply zk | apply zy | (apply zm; apply zn; simp only [go_sem, simprocAttr, hks, Ky.ok, inR, hoi, hg, eq_false d1, eq_true (show hi2 < (ins.length : Int) by omega)])
end Go.Proofs.YtbhoeanfnbkenaaGreatDoor
