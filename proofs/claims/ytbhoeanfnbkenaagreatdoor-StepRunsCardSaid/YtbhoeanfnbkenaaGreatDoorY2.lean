import Derived.Test.YtbhoeanfnbkenaaGreatDoorR24
import Derived.Test.YtbhoeanfnbkenaaGreatDoorR35
import Derived.Test.YtbhoeanfnbkenaaGreatDoorR32
import Derived.Test.YtbhoeanfnbkenaaGreatDoorQ5
namespace Go.Proofs.YtbhoeanfnbkenaaGreatDoor
open Go.RowKit Go.WideMaps
set_option maxRecDepth 100000
set_option linter.unusedSimpArgs false
variable (Hy : World → Prop)
attribute [local irreducible] zU zY cwp z1 z6 lpQ z8 asQ bdQ bdY zab zac zad zaa
theorem zd1 (c : Ci) (hr : CRoom c) (hgo : GOk c.gts) (hlo : LOk c.las) : Ct Tryz.prog Hy 25 [.ag (cE c)] [.b (decide ((zaw c).1 = 0))] := by
 have hck := zje Hy c hr hgo hlo
 obtain ⟨ins, outs, las, gts⟩ := c
 simp only [cE] at hck ⊢
 refine zI (cls := _root_.id) zB zD Tryz.func25 rfl (by decide) (Nat.le_of_ble_eq_true rfl) ?_
 rw [show Tryz.f25.ntmps = 12 from rfl, zC]
 simp only [List.zipIdx_cons, List.zipIdx_nil, List.map_cons, List.map_nil, Nat.reduceAdd]
 repeat' first | apply zg | refine zf rfl fun K E hK hE => ?_ | (refine za fun κ η => ?_; simp only [go_sem, simprocAttr]; refine η _ ?_; clear η κ) | (refine zd (hK _ ?_); clear hE hK E K) | apply zb
 refine za fun κ η => ?_; simp only [go_sem, simprocAttr]; refine ⟨_, hck, ?_⟩; simp only [go_sem, simprocAttr]; refine η _ ?_; clear η κ
 repeat' first | apply zg | refine zf rfl fun K E hK hE => ?_ | (refine za fun κ η => ?_; simp only [go_sem, simprocAttr]; refine η _ ?_; clear η κ) | (refine zd (hK _ ?_); clear hE hK E K) | apply zb | apply zk | (apply zm; apply zn; simp only [go_sem, simprocAttr])
def bl (l : List Bool) : List (List T) := l.map fun x => [.b x]
theorem zaX (l : List Bool) : (bl l).length = l.length := List.length_map _
attribute [go_sem] zaX
theorem zbM {l : List Bool} {k : Nat} {x : Bool} (h : l[k]? = some x) : (bl l)[k]? = some [.b x] := by unfold bl; rw [List.getElem?_map, h]; rfl
theorem zbV (a b : List Bool) : bl (a ++ b) = bl a ++ bl b := List.map_append
theorem zmH (a : List Bool) (k : Nat) : (bl a).drop k = bl (a.drop k) := List.map_drop.symm
theorem ziI (l : List Bool) (k : Nat) (x : Bool) : (bl l).set k [.b x] = bl (l.set k x) := by unfold bl; rw [List.map_set]
theorem zcY (l : List Bool) : ∀ e ∈ bl l, e.length = 1 := fun e he => by
 obtain ⟨x, _, rfl⟩ := List.mem_map.1 he
 rfl
theorem ziJ (n : Nat) : List.replicate n [T.b false] = bl (List.replicate n false) := by unfold bl; rw [List.map_replicate]
def lat (las : List La) (k : Nat) : La := las.getD k ⟨zba, zba, 0⟩
theorem ziK {las : List La} {k : Nat} {x : La} (h : las[k]? = some x) : lat las k = x := by unfold lat; rw [List.getD_eq_getElem?_getD, h]; rfl
def zav (las : List La) (k : Nat) : Nat := ((las.take k).filter fun x => decide (x.init = 2)).length
theorem zmI {las : List La} {k : Nat} {x : La} (h : las[k]? = some x) : zav las (k + 1) = zav las k + if x.init = 2 then 1 else 0 := by
 unfold zav
 rw [List.take_add_one, h, List.filter_append, List.length_append]
 by_cases c : x.init = 2 <;> simp [c]
def zdo (las : List La) (picks : List Bool) (k : Nat) : Bool := if (lat las k).init = 2 then picks.getD (zav las k) false else decide ((lat las k).init = 1)
def beg (las : List La) (picks : List Bool) (k : Nat) : List Bool := (List.range k).map (zdo las picks)
theorem zmJ (las : List La) (picks : List Bool) (k : Nat) : beg las picks (k + 1) = beg las picks k ++ [zdo las picks k] := by
 unfold beg
 rw [List.range_succ, List.map_append]
 rfl
theorem zmK (las : List La) (picks : List Bool) (k : Nat) : (beg las picks k).length = k := by simp [beg]
def zd2 (c : Ci) (picks : List Bool) : List Bool × Int := if (zaw c).1 = 0 then (beg c.las picks c.las.length, 0) else ([], 1)
set_option maxHeartbeats 4000000 in
theorem zmL (c : Ci) (picks : List Bool) (hr : CRoom c) (hgo : GOk c.gts) (hlo : LOk c.las) : Ct Tryz.prog Hy 8 [.ag (cE c), .sl (bl picks)] [.sl (bl (zd2 c picks).1), .i .i64 (zd2 c picks).2] := by
 have hmb := zd1 Hy c hr hgo hlo
 by_cases h0 : (zaw c).1 = 0
 ·rw [show zd2 c picks = (beg c.las picks c.las.length, 0) from if_pos h0]
  rw [decide_eq_true h0] at hmb
  have hmc := ((zcL c).1 h0).1
  have hl2 : c.las.length ≤ 200 := by
   have := hmc.lim
   unfold zaW at this
   simp only [Bool.or_eq_false_iff, decide_eq_false_iff_not] at this
   omega
  obtain ⟨ins, outs, las, gts⟩ := c
  simp only [cE] at hmb hl2 ⊢
  refine zI (cls := _root_.id) zB zD Tryz.func8 rfl (by decide) (Nat.le_of_ble_eq_true rfl) ?_
  rw [show Tryz.f8.ntmps = 42 from rfl, zC]
  simp only [List.zipIdx_cons, List.zipIdx_nil, List.map_cons, List.map_nil, Nat.reduceAdd]
  repeat' first | apply zg | refine zf rfl fun K E hK hE => ?_ | (refine za fun κ η => ?_; simp only [go_sem, simprocAttr]; refine η _ ?_; clear η κ) | (refine zd (hK _ ?_); clear hE hK E K) | apply zb
  refine za fun κ η => ?_; simp only [go_sem, simprocAttr]; refine ⟨_, hmb, ?_⟩; simp only [go_sem, simprocAttr]; refine η _ ?_; clear η κ
  repeat' first | apply zg | apply zj | refine zf rfl fun K E hK hE => ?_ | (refine za fun κ η => ?_; simp only [go_sem, simprocAttr]; (repeat refine ⟨by omega, ?_⟩); refine η _ ?_; clear η κ) | (refine zd (hK _ ?_); clear hE hK E K) | apply zb | refine zh false rfl (fun h => (by cases h)) fun _ => ?_ | apply zi
  refine zW (fun m s' => ∃ k : Nat, m = las.length - k ∧ k ≤ las.length ∧ ∃ F G0 yy, s' = nf 42 F G0 [(1, .t (.sl ((bl picks).drop (zav las k)))), (2, .ptr 2 1 0), (6, yy), (14, .t (.sl (lsR las))), (15, .t (.i .i64 las.length)), (16, .t (.i .i64 k))] [] ∧ G0 2 = ⟨1, .cells 26 [.t (.sl (sR ins)), .t (.sl (sR outs)), .t (.sl (lsR las)), .t (.sl (gsR gts))]⟩ ∧ Acc G0 39 4 1 (bl (beg las picks k)) yy) las.length ?_ ?_
  ·exact ⟨0, by omega, by omega, _, _, _, zp rfl ⟨rfl, rfl, rfl, rfl, rfl, rfl, trivial⟩ trivial, rfl, .inl ⟨rfl, rfl⟩⟩
  rintro m s' ⟨k, rfl, hk, F, G0, yy, rfl, b2, hy⟩
  by_cases hd : k < las.length
  ·have hd' : ((k : Int) < las.length) = True := eq_true (by omega)
   obtain ⟨x, hx⟩ : ∃ x, las[k]? = some x := ⟨_, List.getElem?_eq_getElem hd⟩
   have hx' := zbv hx
   have htw := zmI hx
   have hst : bl (beg las picks (k + 1)) = bl (beg las picks k) ++ [[.b (zdo las picks k)]] := by rw [zmJ, zbV]; rfl
   have hsa : zdo las picks k = if x.init = 2 then picks.getD (zav las k) false else decide (x.init = 1) := by unfold zdo; rw [ziK hx]
   have hlen : (bl (beg las picks k)).length ≤ 1000 := by rw [zaX, zmK]; omega
   generalize zdo las picks k = v at hst hsa
   generalize bl (beg las picks k) = rw0 at hst hlen hy
   have hbd := zmH picks (zav las k)
   by_cases c2 : x.init = 2
   ·have c2' := eq_true c2
    have c1' : (x.init = 1) = False := eq_false (by omega)
    rw [if_pos c2] at htw hsa
    by_cases c3 : zav las k < picks.length
    ·obtain ⟨p, hp⟩ : ∃ p, picks[zav las k]? = some p := ⟨_, List.getElem?_eq_getElem c3⟩
     obtain rfl : v = p := by rw [hsa, List.getD_eq_getElem?_getD, hp]; rfl
     have hpos : ((0 : Int) < ((picks.length - zav las k : Nat) : Int)) = True := eq_true (by omega)
     have hg0 : ((bl picks).drop (zav las k))[0]? = some [.b v] := by rw [List.getElem?_drop]; exact zbM hp
     have hdl : ((bl picks).drop (zav las k)).length = picks.length - zav las k := by rw [List.length_drop, zaX]
     have hdd : ((bl picks).drop (zav las k)).drop 1 = (bl picks).drop (zav las (k + 1)) := by rw [List.drop_drop, htw]
     have hdt : ((bl picks).drop (zav las (k + 1))).take (((picks.length - zav las k : Nat) : Int) - 1).toNat = (bl picks).drop (zav las (k + 1)) := by
      rw [List.take_of_length_le]
      rw [List.length_drop, zaX, htw]
      omega
     have hd1 : ∀ e ∈ (bl picks).drop (zav las k), e.length = 1 := fun e he => zcY picks e (List.mem_of_mem_drop he)
     generalize (bl picks).drop (zav las k) = dr at *
     generalize hdr2 : (bl picks).drop (zav las (k + 1)) = dr2 at *
     rcases hy with ⟨y0, rfl⟩ | ⟨q', rfl, hr2⟩
     ·rw [y0] at hst
      repeat' first | apply zg | apply zj | refine zf rfl fun K E hK hE => ?_ | refine zG rfl (by kernel_rfl) fun K E hK hE => ?_ | ((first | refine za fun κ η => ?_ | refine zo rfl fun κ η => ?_ | refine zr (by kernel_rfl) fun κ η => ?_); simp only [go_sem, simprocAttr, b2, hd', hx', c1', c2', decide_true, decide_false, hdl, hpos, hg0, hdt, hdd]; (repeat refine ⟨by omega, ?_⟩); refine η _ ?_; clear η κ) | (refine zd (hK _ ?_); clear hE hK E K) | apply zb | refine zh true rfl (fun _ => ?_) (fun h => (by cases h)) | (refine zH (hK _ ?_); clear hE hK E K) | apply zq | apply zi | apply zs
      exact ⟨las.length - (k + 1), by omega, k + 1, rfl, by omega, _, _, _, zp rfl ⟨by rw [hdr2]; rfl, rfl, rfl, rfl, rfl, rfl, trivial⟩ trivial, b2, .inr ⟨_, rfl, by rw [hst]; rfl⟩⟩
     ·repeat' first | apply zg | apply zj | refine zf rfl fun K E hK hE => ?_ | refine zG rfl (by kernel_rfl) fun K E hK hE => ?_ | ((first | refine za fun κ η => ?_ | refine zo rfl fun κ η => ?_ | refine zr (by kernel_rfl) fun κ η => ?_); simp only [go_sem, simprocAttr, b2, hd', hx', c1', c2', decide_true, decide_false, hdl, hpos, hg0, hdt, hdd, hr2]; (repeat refine ⟨by omega, ?_⟩); refine η _ ?_; clear η κ) | (refine zd (hK _ ?_); clear hE hK E K) | apply zb | refine zh true rfl (fun _ => ?_) (fun h => (by cases h)) | (refine zH (hK _ ?_); clear hE hK E K) | apply zq | apply zi | apply zs
      exact ⟨las.length - (k + 1), by omega, k + 1, rfl, by omega, _, _, _, zp rfl ⟨by rw [hdr2]; rfl, rfl, rfl, rfl, rfl, rfl, trivial⟩ trivial, b2, .inr ⟨_, rfl, by rw [hst]; rfl⟩⟩
    ·have hdl : ((bl picks).drop (zav las k)).length = 0 := by rw [List.length_drop, zaX]; omega
     have hse : (bl picks).drop (zav las k) = (bl picks).drop (zav las (k + 1)) := by
      rw [List.drop_eq_nil_of_le (by rw [zaX]; omega), List.drop_eq_nil_of_le (by rw [zaX]; omega)]
     obtain rfl : v = false := by rw [hsa, List.getD_eq_getElem?_getD, List.getElem?_eq_none (by omega)]; rfl
     generalize (bl picks).drop (zav las k) = dr at *
     rcases hy with ⟨y0, rfl⟩ | ⟨q', rfl, hr2⟩
     ·rw [y0] at hst
      repeat' first | apply zg | apply zj | refine zf rfl fun K E hK hE => ?_ | ((first | refine za fun κ η => ?_ | refine zo rfl fun κ η => ?_); simp only [go_sem, simprocAttr, b2, hd', hx', c1', c2', decide_true, decide_false, hdl, Int.natCast_zero]; (repeat refine ⟨by omega, ?_⟩); refine η _ ?_; clear η κ) | (refine zd (hK _ ?_); clear hE hK E K) | apply zb | refine zh true rfl (fun _ => ?_) (fun h => (by cases h)) | refine zh false rfl (fun h => (by cases h)) fun _ => ?_ | apply zq | apply zi | apply zs
      exact ⟨las.length - (k + 1), by omega, k + 1, rfl, by omega, _, _, _, zp rfl ⟨by rw [← hse]; rfl, rfl, rfl, rfl, rfl, rfl, trivial⟩ trivial, b2, .inr ⟨_, rfl, by rw [hst]; rfl⟩⟩
     ·repeat' first | apply zg | apply zj | refine zf rfl fun K E hK hE => ?_ | ((first | refine za fun κ η => ?_ | refine zo rfl fun κ η => ?_); simp only [go_sem, simprocAttr, b2, hd', hx', c1', c2', decide_true, decide_false, hdl, Int.natCast_zero, hr2]; (repeat refine ⟨by omega, ?_⟩); refine η _ ?_; clear η κ) | (refine zd (hK _ ?_); clear hE hK E K) | apply zb | refine zh true rfl (fun _ => ?_) (fun h => (by cases h)) | refine zh false rfl (fun h => (by cases h)) fun _ => ?_ | apply zq | apply zi | apply zs
      exact ⟨las.length - (k + 1), by omega, k + 1, rfl, by omega, _, _, _, zp rfl ⟨by rw [← hse]; rfl, rfl, rfl, rfl, rfl, rfl, trivial⟩ trivial, b2, .inr ⟨_, rfl, by rw [hst]; rfl⟩⟩
   ·have c2' := eq_false c2
    rw [if_neg c2] at htw hsa
    replace htw : zav las (k + 1) = zav las k := htw
    generalize hdr : (bl picks).drop (zav las k) = dr at *
    subst hsa
    rcases hy with ⟨y0, rfl⟩ | ⟨q', rfl, hr2⟩
    ·rw [y0] at hst
     repeat' first | apply zg | apply zj | refine zf rfl fun K E hK hE => ?_ | ((first | refine za fun κ η => ?_ | refine zo rfl fun κ η => ?_); simp only [go_sem, simprocAttr, b2, hd', hx', c2', decide_true, decide_false]; (repeat refine ⟨by omega, ?_⟩); refine η _ ?_; clear η κ) | (refine zd (hK _ ?_); clear hE hK E K) | apply zb | refine zh true rfl (fun _ => ?_) (fun h => (by cases h)) | refine zh false rfl (fun h => (by cases h)) fun _ => ?_ | apply zq | apply zi | apply zs
     exact ⟨las.length - (k + 1), by omega, k + 1, rfl, by omega, _, _, _, zp rfl ⟨by rw [htw, hdr]; rfl, rfl, rfl, rfl, rfl, rfl, trivial⟩ trivial, b2, .inr ⟨_, rfl, by rw [hst]; rfl⟩⟩
    ·repeat' first | apply zg | apply zj | refine zf rfl fun K E hK hE => ?_ | ((first | refine za fun κ η => ?_ | refine zo rfl fun κ η => ?_); simp only [go_sem, simprocAttr, b2, hd', hx', c2', decide_true, decide_false, hr2]; (repeat refine ⟨by omega, ?_⟩); refine η _ ?_; clear η κ) | (refine zd (hK _ ?_); clear hE hK E K) | apply zb | refine zh true rfl (fun _ => ?_) (fun h => (by cases h)) | refine zh false rfl (fun h => (by cases h)) fun _ => ?_ | apply zq | apply zi | apply zs
     exact ⟨las.length - (k + 1), by omega, k + 1, rfl, by omega, _, _, _, zp rfl ⟨by rw [htw, hdr]; rfl, rfl, rfl, rfl, rfl, rfl, trivial⟩ trivial, b2, .inr ⟨_, rfl, by rw [hst]; rfl⟩⟩
  have hd' : ((k : Int) < las.length) = False := eq_false (by omega)
  obtain rfl : k = las.length := by omega
  rcases hy with ⟨y0, rfl⟩ | ⟨q', rfl, hr2⟩
  ·rw [y0]
   repeat' first | apply zg | refine zf rfl fun K E hK hE => ?_ | (refine za fun κ η => ?_; simp only [go_sem, simprocAttr, b2, hd']; refine η _ ?_; clear η κ) | (refine zd (hK _ ?_); clear hE hK E K) | apply zb | refine zh false rfl (fun h => (by cases h)) fun _ => ?_ | apply zt | apply zk | apply zu | apply zw | apply zx | (apply zm; apply zn; simp only [go_sem, simprocAttr, b2, hd'])
  ·repeat' first | apply zg | refine zf rfl fun K E hK hE => ?_ | (refine za fun κ η => ?_; simp only [go_sem, simprocAttr, b2, hd', hr2]; refine η _ ?_; clear η κ) | (refine zd (hK _ ?_); clear hE hK E K) | apply zb | refine zh false rfl (fun h => (by cases h)) fun _ => ?_ | apply zt | apply zk | apply zu | apply zw | apply zx | (apply zm; apply zn; simp only [go_sem, simprocAttr, b2, hd', hr2])
 ·rw [show zd2 c picks = ([], 1) from if_neg h0]
  rw [decide_eq_false h0] at hmb
  obtain ⟨ins, outs, las, gts⟩ := c
  simp only [cE] at hmb ⊢
  refine zI (cls := _root_.id) zB zD Tryz.func8 rfl (by decide) (Nat.le_of_ble_eq_true rfl) ?_
  rw [show Tryz.f8.ntmps = 42 from rfl, zC]
  simp only [List.zipIdx_cons, List.zipIdx_nil, List.map_cons, List.map_nil, Nat.reduceAdd]
  repeat' first | apply zg | refine zf rfl fun K E hK hE => ?_ | (refine za fun κ η => ?_; simp only [go_sem, simprocAttr]; refine η _ ?_; clear η κ) | (refine zd (hK _ ?_); clear hE hK E K) | apply zb
  refine za fun κ η => ?_; simp only [go_sem, simprocAttr]; refine ⟨_, hmb, ?_⟩; simp only [go_sem, simprocAttr]; refine η _ ?_; clear η κ
  repeat' first | apply zg | refine zf rfl fun K E hK hE => ?_ | (refine za fun κ η => ?_; simp only [go_sem, simprocAttr]; refine η _ ?_; clear η κ) | (refine zd (hK _ ?_); clear hE hK E K) | apply zb | refine zh true rfl (fun _ => ?_) (fun h => (by cases h)) | apply zk | apply zy | (apply zm; apply zn; simp only [go_sem, simprocAttr])
  rfl
end Go.Proofs.YtbhoeanfnbkenaaGreatDoor
namespace Go.Proofs.YtbhoeanfnbkenaaGreatDoor
open Go.RowKit Go.WideMaps
set_option maxRecDepth 100000
set_option linter.unusedSimpArgs false
variable (Hy : World → Prop)
attribute [local irreducible] zU zY cwp z1 z6 lpQ z8 asQ bdQ bdY zab zac zad zaa
theorem zcS {c : Ci} (h : MayC c) : (c.ins.length + c.las.length + c.gts.length ≤ 200 ∧ c.outs.length ≤ 200) ∧ ∀ g ∈ c.gts, g.ins.length ≤ 8 ∧ g.rows.length ≤ 128 := by
 have := h.lim
 unfold zaW at this
 simp only [Bool.or_eq_false_iff, decide_eq_false_iff_not, List.any_eq_false] at this
 refine ⟨⟨by omega, by omega⟩, fun g hg => ?_⟩
 have := this.2.2 g hg
 unfold zbf at this
 simp only [Bool.or_eq_true, decide_eq_true_eq, not_or] at this
 omega
def zcw (las : List La) (st : List Bool) (k : Nat) : Bool := decide ((lat las k).init = 2) || (st.getD k false == decide ((lat las k).init = 1))
def zcT (c : Ci) (st : List Bool) : Bool := decide ((zaw c).1 = 0) && (decide (st.length = c.las.length) && (List.range c.las.length).all (zcw c.las st))
theorem zlc {las : List La} {st : List Bool} {k : Nat} {x : La} {v : Bool} (hx : las[k]? = some x) (hv : st[k]? = some v) : zcw las st k = (decide (x.init = 2) || (v == decide (x.init = 1))) := by
 unfold zcw
 rw [ziK hx, List.getD_eq_getElem?_getD, hv]
 rfl
set_option maxHeartbeats 4000000 in
theorem zhM (c : Ci) (st : List Bool) (hr : CRoom c) (hgo : GOk c.gts) (hlo : LOk c.las) : Ct Tryz.prog Hy 16 [.ag (cE c), .sl (bl st)] [.b (zcT c st)] := by
 have hmb := zd1 Hy c hr hgo hlo
 by_cases h0 : (zaw c).1 = 0
 rotate_left
 ·rw [show zcT c st = false by unfold zcT; rw [decide_eq_false h0]; rfl]
  rw [decide_eq_false h0] at hmb
  obtain ⟨ins, outs, las, gts⟩ := c
  simp only [cE] at hmb ⊢
  refine zI (cls := _root_.id) zB zD Tryz.func16 rfl (by decide) (Nat.le_of_ble_eq_true rfl) ?_
  rw [show Tryz.f16.ntmps = 40 from rfl, zC]
  simp only [List.zipIdx_cons, List.zipIdx_nil, List.map_cons, List.map_nil, Nat.reduceAdd]
  repeat' first | apply zg | refine zf rfl fun K E hK hE => ?_ | (refine za fun κ η => ?_; simp only [go_sem, simprocAttr]; refine η _ ?_; clear η κ) | (refine zd (hK _ ?_); clear hE hK E K) | apply zb
  refine za fun κ η => ?_; simp only [go_sem, simprocAttr]; refine ⟨_, hmb, ?_⟩; simp only [go_sem, simprocAttr]; refine η _ ?_; clear η κ
  repeat' first | apply zg | refine zf rfl fun K E hK hE => ?_ | ((first | refine za fun κ η => ?_ | refine zo rfl fun κ η => ?_); simp only [go_sem, simprocAttr]; refine η _ ?_; clear η κ) | (refine zd (hK _ ?_); clear hE hK E K) | apply zb | refine zh true rfl (fun _ => ?_) (fun h => (by cases h)) | apply zk | apply zy | (apply zm; apply zn; simp only [go_sem, simprocAttr])
 rw [decide_eq_true h0] at hmb
 obtain ⟨⟨hn, _⟩, _⟩ := zcS ((zcL c).1 h0).1
 have hR : zcT c st = (decide (st.length = c.las.length) && (List.range c.las.length).all (zcw c.las st)) := by unfold zcT; rw [decide_eq_true h0]; rfl
 rw [hR]
 clear hR h0
 by_cases hl : st.length = c.las.length
 rotate_left
 ·rw [decide_eq_false hl]
  have hl' : ((st.length : Int) = c.las.length) = False := eq_false (by omega)
  obtain ⟨ins, outs, las, gts⟩ := c
  simp only [cE] at hmb hl' ⊢
  refine zI (cls := _root_.id) zB zD Tryz.func16 rfl (by decide) (Nat.le_of_ble_eq_true rfl) ?_
  rw [show Tryz.f16.ntmps = 40 from rfl, zC]
  simp only [List.zipIdx_cons, List.zipIdx_nil, List.map_cons, List.map_nil, Nat.reduceAdd]
  repeat' first | apply zg | refine zf rfl fun K E hK hE => ?_ | (refine za fun κ η => ?_; simp only [go_sem, simprocAttr]; refine η _ ?_; clear η κ) | (refine zd (hK _ ?_); clear hE hK E K) | apply zb
  refine za fun κ η => ?_; simp only [go_sem, simprocAttr]; refine ⟨_, hmb, ?_⟩; simp only [go_sem, simprocAttr]; refine η _ ?_; clear η κ
  repeat' first | apply zg | refine zf rfl fun K E hK hE => ?_ | ((first | refine za fun κ η => ?_ | refine zo rfl fun κ η => ?_); simp only [go_sem, simprocAttr, hl']; (repeat refine ⟨by omega, ?_⟩); refine η _ ?_; clear η κ) | (refine zd (hK _ ?_); clear hE hK E K) | apply zb | refine zh true rfl (fun _ => ?_) (fun h => (by cases h)) | apply zk | apply zy | (apply zm; apply zn; simp only [go_sem, simprocAttr, hl'])
 rw [decide_eq_true hl, Bool.true_and]
 have hl' : ((st.length : Int) = c.las.length) = True := eq_true (by omega)
 obtain ⟨ins, outs, las, gts⟩ := c
 simp only [cE] at hmb hl' hl hn ⊢
 obtain ⟨R, hR⟩ : ∃ R, R = (List.range las.length).all (zcw las st) := ⟨_, rfl⟩
 rw [← hR]
 refine zI (cls := _root_.id) zB zD Tryz.func16 rfl (by decide) (Nat.le_of_ble_eq_true rfl) ?_
 rw [show Tryz.f16.ntmps = 40 from rfl, zC]
 simp only [List.zipIdx_cons, List.zipIdx_nil, List.map_cons, List.map_nil, Nat.reduceAdd]
 repeat' first | apply zg | refine zf rfl fun K E hK hE => ?_ | (refine za fun κ η => ?_; simp only [go_sem, simprocAttr]; refine η _ ?_; clear η κ) | (refine zd (hK _ ?_); clear hE hK E K) | apply zb
 refine za fun κ η => ?_; simp only [go_sem, simprocAttr]; refine ⟨_, hmb, ?_⟩; simp only [go_sem, simprocAttr]; refine η _ ?_; clear η κ
 repeat' first | apply zg | apply zj | refine zf rfl fun K E hK hE => ?_ | ((first | refine za fun κ η => ?_ | refine zo rfl fun κ η => ?_); simp only [go_sem, simprocAttr, hl']; (repeat refine ⟨by omega, ?_⟩); refine η _ ?_; clear η κ) | (refine zd (hK _ ?_); clear hE hK E K) | apply zb | refine zh false rfl (fun h => (by cases h)) fun _ => ?_ | apply zi
 refine zW (fun m s' => ∃ k : Nat, m = las.length - k ∧ k ≤ las.length ∧ (∀ j, j < k → zcw las st j = true) ∧ ∃ F G0, s' = nf 40 F G0 [(1, .t (.sl (bl st))), (2, .ptr 2 1 0), (19, .t (.sl (lsR las))), (20, .t (.i .i64 las.length)), (21, .t (.i .i64 k))] [] ∧ G0 2 = ⟨1, .cells 26 [.t (.sl (sR ins)), .t (.sl (sR outs)), .t (.sl (lsR las)), .t (.sl (gsR gts))]⟩) las.length ?_ ?_
 ·exact ⟨0, by omega, by omega, fun j hj => absurd hj (Nat.not_lt_zero j), _, _, zp rfl ⟨rfl, rfl, rfl, rfl, rfl, trivial⟩ trivial, rfl⟩
 rintro m s' ⟨k, rfl, hk, hno, F, G0, rfl, b2⟩
 by_cases hd : k < las.length
 ·have hd' : ((k : Int) < las.length) = True := eq_true (by omega)
  obtain ⟨x, hx⟩ : ∃ x, las[k]? = some x := ⟨_, List.getElem?_eq_getElem hd⟩
  obtain ⟨v, hv⟩ : ∃ v, st[k]? = some v := ⟨_, List.getElem?_eq_getElem (by omega)⟩
  have hx' := zbv hx
  have hv' := zbM hv
  have hok := zlc hx hv
  have hnext : zcw las st k = true → ∀ j, j < k + 1 → zcw las st j = true := fun h j hj => by
   rcases Nat.lt_or_eq_of_le (Nat.lt_succ_iff.1 hj) with h1 | rfl
   ·exact hno j h1
   ·exact h
  by_cases c2 : x.init = 2
  ·have c2' := eq_true c2
   rw [decide_eq_true c2, Bool.true_or] at hok
   repeat' first | apply zg | apply zj | refine zf rfl fun K E hK hE => ?_ | refine zG rfl (by kernel_rfl) fun K E hK hE => ?_ | ((first | refine za fun κ η => ?_ | refine zr (by kernel_rfl) fun κ η => ?_ | refine zK (by kernel_rfl) rfl fun κ η => ?_); simp only [go_sem, simprocAttr, b2, hd', hx', c2', decide_true]; (repeat refine ⟨by omega, ?_⟩); refine η _ ?_; clear η κ) | (refine zd (hK _ ?_); clear hE hK E K) | apply zb | refine zh true rfl (fun _ => ?_) (fun h => (by cases h)) | refine zh false rfl (fun h => (by cases h)) fun _ => ?_ | (refine zH (hK _ ?_); clear hE hK E K) | apply zq | apply zi | apply zs
   exact ⟨las.length - (k + 1), by omega, k + 1, rfl, by omega, hnext hok, _, _, zp rfl ⟨rfl, rfl, rfl, rfl, rfl, trivial⟩ trivial, b2⟩
  ·have c2' := eq_false c2
   rw [decide_eq_false c2, Bool.false_or] at hok
   have hne : (v != decide (x.init = 1)) = !(v == decide (x.init = 1)) := rfl
   cases he : (v == decide (x.init = 1)) with
   | true =>
    rw [he] at hok
    repeat' first | apply zg | apply zj | refine zf rfl fun K E hK hE => ?_ | refine zG rfl (by kernel_rfl) fun K E hK hE => ?_ | ((first | refine za fun κ η => ?_ | refine zr (by kernel_rfl) fun κ η => ?_ | refine zK (by kernel_rfl) rfl fun κ η => ?_); simp only [go_sem, simprocAttr, b2, hd', hx', hv', c2', decide_false, hne, he]; (repeat refine ⟨by omega, ?_⟩); refine η _ ?_; clear η κ) | (refine zd (hK _ ?_); clear hE hK E K) | apply zb | refine zh true rfl (fun _ => ?_) (fun h => (by cases h)) | refine zh false rfl (fun h => (by cases h)) fun _ => ?_ | (refine zH (hK _ ?_); clear hE hK E K) | apply zq | apply zi | apply zs
    exact ⟨las.length - (k + 1), by omega, k + 1, rfl, by omega, hnext hok, _, _, zp rfl ⟨rfl, rfl, rfl, rfl, rfl, trivial⟩ trivial, b2⟩
   | false =>
    rw [he] at hok
    obtain rfl : R = false := by
     rw [hR, List.all_eq_false]
     exact ⟨k, List.mem_range.2 hd, by rw [hok]; decide⟩
    repeat' first | apply zg | apply zj | refine zf rfl fun K E hK hE => ?_ | refine zG rfl (by kernel_rfl) fun K E hK hE => ?_ | ((first | refine za fun κ η => ?_ | refine zr (by kernel_rfl) fun κ η => ?_ | refine zK (by kernel_rfl) rfl fun κ η => ?_); simp only [go_sem, simprocAttr, b2, hd', hx', hv', c2', decide_false, hne, he]; (repeat refine ⟨by omega, ?_⟩); refine η _ ?_; clear η κ) | (refine zd (hK _ ?_); clear hE hK E K) | apply zb | refine zh true rfl (fun _ => ?_) (fun h => (by cases h)) | (refine zH (hK _ ?_); clear hE hK E K) | apply zi | apply zk | apply zy | apply zJ | apply zL | (apply zm; apply zn; simp only [go_sem, simprocAttr, b2, hd', hx', hv', c2', decide_false, hne, he])
 have hd' : ((k : Int) < las.length) = False := eq_false (by omega)
 obtain rfl : R = true := by
  rw [hR, List.all_eq_true]
  exact fun j hj => hno j (by have := List.mem_range.1 hj; omega)
 repeat' first | apply zg | refine zf rfl fun K E hK hE => ?_ | (refine za fun κ η => ?_; simp only [go_sem, simprocAttr, b2, hd']; refine η _ ?_; clear η κ) | (refine zd (hK _ ?_); clear hE hK E K) | apply zb | refine zh false rfl (fun h => (by cases h)) fun _ => ?_ | apply zt | apply zk | apply zu | apply zw | apply zx | (apply zm; apply zn; simp only [go_sem, simprocAttr, b2, hd'])
theorem zld (w : List Bool) (h : w.length ≤ 1000000) {o : Nat → O} {R : List Nat} (hR : 2305 ∈ R) : Cd Tryz.prog Hy 33 [.t (.sl (bl w))] o R [(2305, ⟨(o 2305).gen + 1 + 1, .row 4 1 (bl w)⟩)] (.row 2305 ((o 2305).gen + 1 + 1)) := by
 intro o2 ho
 rw [← ho 2305 hR]
 clear ho
 have hz := zcY w
 have hbl := zaX w
 generalize bl w = w at *
 refine Cm.nilRow (R := zf5 (w = []) o2 [.row 2305 ((o2 2305).gen + 1 + 1)] fun j => zae [(2305, ⟨(o2 2305).gen + 1 + 1, .row 4 1 w⟩)] j (o2 j)) ?_ (fun rs o' hr => ?_)
 ·refine zax (cls := fun d => 2300 + d) zB zD Tryz.func33 rfl (by decide) (Nat.le_of_ble_eq_true rfl) ?_
  rw [show Tryz.f33.ntmps = 8 from rfl, zC]
  simp only [List.zipIdx_cons, List.zipIdx_nil, List.map_cons, List.map_nil, Nat.reduceAdd]
  repeat' first | apply zg | refine zf rfl fun K E hK hE => ?_ | (refine za fun κ η => ?_; simp only [go_sem, simprocAttr]; refine η _ ?_; clear η κ) | (refine zd (hK _ ?_); clear hE hK E K) | apply zb
  refine zfm fun κ η => ?_; simp only [go_sem, simprocAttr]; refine ⟨η _ ?_, fun nil_ => η _ ?_⟩ <;> clear η κ
  ·repeat' first | (refine zd (hK _ ?_); clear hE hK E K) | apply zb
   refine zh _ rfl (fun hq => (by cases hq)) (fun hq => ?_)
   repeat' first | apply zg | refine zf rfl fun K E hK hE => ?_ | (refine za fun κ η => ?_; simp only [go_sem, simprocAttr, hz]; (repeat refine ⟨by omega, ?_⟩); refine η _ ?_; clear η κ) | (refine zd (hK _ ?_); clear hE hK E K) | apply zb | apply zi | apply zk | (apply zm; apply zn; simp only [go_sem, simprocAttr, hz])
   refine .inl ⟨rfl, funext fun j => ?_⟩
   rw [za7]
   by_cases hj : j = 2305
   ·subst hj; rfl
   ·simp only [zae, hj, if_false]
  ·repeat' first | (refine zd (hK _ ?_); clear hE hK E K) | apply zb
   refine zh _ rfl (fun hq => ?_) (fun hq => (by cases hq))
   repeat' first | apply zg | refine zf rfl fun K E hK hE => ?_ | (refine za fun κ η => ?_; simp only [go_sem, simprocAttr, nil_]; refine η _ ?_; clear η κ) | (refine zd (hK _ ?_); clear hE hK E K) | apply zb | apply zk | apply zy | (apply zm; apply zn; simp only [go_sem, simprocAttr, nil_])
   exact .inr ⟨trivial, rfl, rfl⟩
 ·rcases hr with ⟨rfl, rfl⟩ | ⟨rfl, rfl, rfl⟩
  ·exact .inl ⟨rfl, rfl⟩
  ·exact .inr ⟨rfl, 2305, (o' 2305).gen + 1 + 1, 4, 1, by omega, rfl, rfl⟩
end Go.Proofs.YtbhoeanfnbkenaaGreatDoor
