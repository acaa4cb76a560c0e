import Derived.Test.YtbhoeanfnbkenaaGreatDoorW3
import Derived.Test.YtbhoeanfnbkenaaGreatDoorY9
namespace Go.Proofs.YtbhoeanfnbkenaaGreatDoor
open Go.RowKit Go.WideMaps
set_option maxRecDepth 100000
set_option linter.unusedSimpArgs false
variable (Hy : World → Prop)
attribute [local irreducible] zU zY cwp z1 z6 lpQ z8 asQ bdQ bdY zab zac zad zaa
end Go.Proofs.YtbhoeanfnbkenaaGreatDoor
namespace Go.Proofs.YtbhoeanfnbkenaaGreatDoor
open Go.RowKit Go.WideMaps
set_option maxRecDepth 100000
set_option linter.unusedSimpArgs false
variable (Hy : World → Prop)
attribute [local irreducible] zU zY cwp z1 z6 lpQ z8 asQ bdQ bdY zab zac zad zaa
set_option maxHeartbeats 16000000 in
theorem zm0 (c : Ci) (st : List Bool) (seq : List (List Bool)) (hr : CRoom c) (hz : CSz c) : Ct Tryz.prog Hy 19 [.ag (cE c), .sl (bl st), .sl (bb seq)] [.sl (bb (zaA c st seq).1), .sl (bl (zaA c st seq).2.1), .i .i64 (zaA c st seq).2.2] := by
 have hri := zgp Hy c hr hz
 have hbs := zaX st
 have hbq := zd3 seq
 by_cases h0 : (zaw c).1 = 0
 rotate_left
 ·rw [zcs (if_neg h0) (by decide)]
  rw [decide_eq_false h0] at hri
  obtain ⟨ins, outs, las, gts⟩ := c
  simp only [cE] at hri ⊢
  generalize bl st = B1 at *
  generalize bb seq = B2 at *
  refine zI (cls := _root_.id) zB zD Tryz.func19 rfl (by decide) (Nat.le_of_ble_eq_true rfl) ?_
  rw [show Tryz.f19.ntmps = 53 from rfl, zC]
  simp only [List.zipIdx_cons, List.zipIdx_nil, List.map_cons, List.map_nil, Nat.reduceAdd]
  repeat' first | apply zg | refine zf rfl fun K E hK hE => ?_ | (refine za fun κ η => ?_; simp only [go_sem, simprocAttr]; refine η _ ?_; clear η κ) | (refine zd (hK _ ?_); clear hE hK E K) | apply zb
  refine za fun κ η => ?_; simp only [go_sem, simprocAttr]; refine ⟨_, hri, ?_⟩; simp only [go_sem, simprocAttr]; refine η _ ?_; clear η κ
  repeat' first | apply zg | refine zf rfl fun K E hK hE => ?_ | (refine za fun κ η => ?_; simp only [go_sem, simprocAttr]; refine η _ ?_; clear η κ) | (refine zd (hK _ ?_); clear hE hK E K) | apply zb | refine zh true rfl (fun _ => ?_) (fun h => (by cases h)) | apply zk | apply zy | (apply zm; apply zn; simp only [go_sem, simprocAttr])
  rfl
 rw [decide_eq_true h0] at hri
 by_cases h1 : 40 < seq.length
 ·rw [zcs ((if_pos h0).trans (if_pos h1)) (by decide)]
  have h1' : ((40 : Int) < seq.length) = True := eq_true (by omega)
  obtain ⟨ins, outs, las, gts⟩ := c
  simp only [cE] at hri ⊢
  generalize bl st = B1 at *
  generalize bb seq = B2 at *
  refine zI (cls := _root_.id) zB zD Tryz.func19 rfl (by decide) (Nat.le_of_ble_eq_true rfl) ?_
  rw [show Tryz.f19.ntmps = 53 from rfl, zC]
  simp only [List.zipIdx_cons, List.zipIdx_nil, List.map_cons, List.map_nil, Nat.reduceAdd]
  repeat' first | apply zg | refine zf rfl fun K E hK hE => ?_ | (refine za fun κ η => ?_; simp only [go_sem, simprocAttr]; refine η _ ?_; clear η κ) | (refine zd (hK _ ?_); clear hE hK E K) | apply zb
  refine za fun κ η => ?_; simp only [go_sem, simprocAttr]; refine ⟨_, hri, ?_⟩; simp only [go_sem, simprocAttr]; refine η _ ?_; clear η κ
  repeat' first | apply zg | refine zf rfl fun K E hK hE => ?_ | (refine za fun κ η => ?_; simp only [go_sem, simprocAttr, hbq, h1']; refine η _ ?_; clear η κ) | (refine zd (hK _ ?_); clear hE hK E K) | apply zb | refine zh true rfl (fun _ => ?_) (fun h => (by cases h)) | refine zh false rfl (fun h => (by cases h)) fun _ => ?_ | apply zi | apply zk | apply zy | (apply zm; apply zn; simp only [go_sem, simprocAttr, hbq, h1'])
  rfl
 have h1' : ((40 : Int) < seq.length) = False := eq_false (by omega)
 by_cases h2 : st.length = c.las.length
 rotate_left
 ·rw [zcs ((if_pos h0).trans ((if_neg h1).trans (if_neg fun h => h2 h.1))) (by decide)]
  have h2' : ((st.length : Int) = c.las.length) = False := eq_false (by omega)
  obtain ⟨ins, outs, las, gts⟩ := c
  simp only [cE] at hri h2' ⊢
  generalize bl st = B1 at *
  generalize bb seq = B2 at *
  refine zI (cls := _root_.id) zB zD Tryz.func19 rfl (by decide) (Nat.le_of_ble_eq_true rfl) ?_
  rw [show Tryz.f19.ntmps = 53 from rfl, zC]
  simp only [List.zipIdx_cons, List.zipIdx_nil, List.map_cons, List.map_nil, Nat.reduceAdd]
  repeat' first | apply zg | refine zf rfl fun K E hK hE => ?_ | (refine za fun κ η => ?_; simp only [go_sem, simprocAttr]; refine η _ ?_; clear η κ) | (refine zd (hK _ ?_); clear hE hK E K) | apply zb
  refine za fun κ η => ?_; simp only [go_sem, simprocAttr]; refine ⟨_, hri, ?_⟩; simp only [go_sem, simprocAttr]; refine η _ ?_; clear η κ
  repeat' first | apply zg | refine zf rfl fun K E hK hE => ?_ | (refine za fun κ η => ?_; simp only [go_sem, simprocAttr, hbq, h1', hbs, h2']; (repeat refine ⟨by omega, ?_⟩); refine η _ ?_; clear η κ) | (refine zd (hK _ ?_); clear hE hK E K) | apply zb | refine zh true rfl (fun _ => ?_) (fun h => (by cases h)) | refine zh false rfl (fun h => (by cases h)) fun _ => ?_ | apply zi | apply zk | apply zy | (apply zm; apply zn; simp only [go_sem, simprocAttr, hbq, h1', hbs, h2'])
  rfl
 have h2' : ((st.length : Int) = c.las.length) = True := eq_true (by omega)
 have hgood : zbF c seq = true → zaA c st seq = (zbi c st seq seq.length, stN c st seq seq.length, 0) := fun h => if_pos ((if_pos h0).trans ((if_neg h1).trans (if_pos ⟨h2, h⟩)))
 have hbad : zbF c seq = false → zaA c st seq = ([], [], 11) := fun h => zcs ((if_pos h0).trans ((if_neg h1).trans (if_neg fun h' => by rw [h] at h'; cases h'.2))) (by decide)
 have hst := fun x y => zji Hy c x y hr hz
 have hok : ∀ x y : List Bool, x.length = c.las.length → y.length = c.ins.length → zbk c x y = (zbK c (zat c x y), zbB c (zat c x y), 0) := fun x y hx hy => (if_pos h0).trans (if_pos ⟨hx, hy⟩)
 have hno : ∀ x y : List Bool, ¬ y.length = c.ins.length → zbk c x y = ([], [], 11) := fun x y hy => (if_pos h0).trans (if_neg fun h => hy h.2)
 have hsl := fun k => ziN (c := c) (st := st) (seq := seq) h2 k
 clear hz h0
 obtain ⟨RR, hRR⟩ : ∃ x, x = zaA c st seq := ⟨_, rfl⟩
 rw [← hRR]
 rw [← hRR] at hgood hbad
 simp only [cE] at hri hst ⊢
 refine zI (cls := _root_.id) zB zD Tryz.func19 rfl (by decide) (Nat.le_of_ble_eq_true rfl) ?_
 rw [show Tryz.f19.ntmps = 53 from rfl, zC]
 simp only [List.zipIdx_cons, List.zipIdx_nil, List.map_cons, List.map_nil, Nat.reduceAdd]
 repeat' first | apply zg | refine zf rfl fun K E hK hE => ?_ | (refine za fun κ η => ?_; simp only [go_sem, simprocAttr]; refine η _ ?_; clear η κ) | (refine zd (hK _ ?_); clear hE hK E K) | apply zb
 refine za fun κ η => ?_; simp only [go_sem, simprocAttr]; refine ⟨_, hri, ?_⟩; simp only [go_sem, simprocAttr]; refine η _ ?_; clear η κ
 repeat' first | apply zg | apply zj | refine zf rfl fun K E hK hE => ?_ | (refine za fun κ η => ?_; simp only [go_sem, simprocAttr, hbq, h1', hbs, h2']; (repeat refine ⟨by omega, ?_⟩); refine η _ ?_; clear η κ) | (refine zd (hK _ ?_); clear hE hK E K) | apply zb | refine zh false rfl (fun h => (by cases h)) fun _ => ?_ | apply zi
 refine zW (fun m s' => ∃ k : Nat, m = seq.length - k ∧ k ≤ seq.length ∧ (∀ (j : Nat) y, j < k → seq[j]? = some y → y.length = c.ins.length) ∧ ∃ F G0 yy, s' = nf 53 F G0 [(1, .t (.sl (bl (stN c st seq k)))), (2, .t (.sl (bb seq))), (3, .ptr 3 1 0), (9, yy), (10, .t (.i .i64 k))] [] ∧ G0 3 = ⟨1, .cells 26 [.t (.sl (sR c.ins)), .t (.sl (sR c.outs)), .t (.sl (lsR c.las)), .t (.sl (gsR c.gts))]⟩ ∧ Acc G0 49 27 1 (bb (zbi c st seq k)) yy) seq.length ?_ ?_
 ·exact ⟨0, by omega, by omega, fun j y hj => absurd hj (Nat.not_lt_zero j), _, _, _, zp rfl ⟨rfl, rfl, rfl, rfl, rfl, trivial⟩ trivial, rfl, .inl ⟨rfl, rfl⟩⟩
 rintro m s' ⟨k, rfl, hk, hno2, F, G0, yy, rfl, b3, hy⟩
 by_cases hd : k < seq.length
 ·have hd' : ((k : Int) < seq.length) = True := eq_true (by omega)
  obtain ⟨y, hy3⟩ : ∃ y, seq[k]? = some y := ⟨_, List.getElem?_eq_getElem hd⟩
  have hy' := zdp hy3
  have hs1 := hst (stN c st seq k) y
  by_cases hyl : y.length = c.ins.length
  ·rw [hok _ _ (hsl k) hyl] at hs1
   have hgd : seq.getD k [] = y := by rw [List.getD_eq_getElem?_getD, hy3]; rfl
   have hnx : stN c st seq (k + 1) = zbB c (zat c (stN c st seq k) y) := by rw [← hgd]; rfl
   have hon : bb (zbi c st seq (k + 1)) = bb (zbi c st seq k) ++ [[.sl (bl (zbK c (zat c (stN c st seq k) y)))]] := by
    rw [zgN, ziL]
    unfold zcZ
    rw [hgd]
    rfl
   have hlen : (bb (zbi c st seq k)).length ≤ 1000 := by rw [zd3, zfd]; omega
   have hfit : ∀ (j : Nat) z, j < k + 1 → seq[j]? = some z → z.length = c.ins.length := fun j z hj hz => by
    rcases Nat.lt_or_eq_of_le (Nat.lt_succ_iff.1 hj) with h | rfl
    ·exact hno2 j z h hz
    ·rw [hy3] at hz; cases hz; exact hyl
   rw [← hnx] at hs1
   clear hnx
   generalize zbK c (zat c (stN c st seq k) y) = OV at *
   generalize bb (zbi c st seq k) = rw0 at hon hlen hy
   generalize hS2 : stN c st seq (k + 1) = S2 at *
   generalize stN c st seq k = S1 at *
   generalize hBB : bb seq = BB at *
   generalize hOB : bl OV = OB at *
   rcases hy with ⟨y0, rfl⟩ | ⟨q', rfl, hr2⟩
   ·rw [y0] at hon
    repeat' first | apply zg | apply zj | refine zf rfl fun K E hK hE => ?_ | refine zG rfl (by kernel_rfl) fun K E hK hE => ?_ | ((first | refine za fun κ η => ?_ | refine zr (by kernel_rfl) fun κ η => ?_); simp only [go_sem, simprocAttr, b3, hbq, hd', hy']; (repeat refine ⟨by omega, ?_⟩); refine η _ ?_; clear η κ) | (refine zd (hK _ ?_); clear hE hK E K) | apply zb | refine zh true rfl (fun _ => ?_) (fun h => (by cases h)) | apply zi
    refine zr (by kernel_rfl) fun κ η => ?_; simp only [go_sem, simprocAttr, b3]; refine ⟨_, hs1, ?_⟩; simp only [go_sem, simprocAttr, b3]; refine η _ ?_; clear η κ
    repeat' first | apply zg | refine zf rfl fun K E hK hE => ?_ | ((first | refine za fun κ η => ?_ | refine zr (by kernel_rfl) fun κ η => ?_); simp only [go_sem, simprocAttr]; (repeat refine ⟨by omega, ?_⟩); refine η _ ?_; clear η κ) | (refine zd (hK _ ?_); clear hE hK E K) | apply zb | refine zh false rfl (fun h => (by cases h)) fun _ => ?_ | (refine zH (hK _ ?_); clear hE hK E K) | apply zq | apply zi | apply zs
    exact ⟨seq.length - (k + 1), by omega, k + 1, rfl, by omega, hfit, _, _, _, zp rfl ⟨by rw [hS2]; rfl, rfl, rfl, rfl, rfl, trivial⟩ trivial, b3, .inr ⟨_, rfl, by rw [hon]; rfl⟩⟩
   ·repeat' first | apply zg | apply zj | refine zf rfl fun K E hK hE => ?_ | refine zG rfl (by kernel_rfl) fun K E hK hE => ?_ | ((first | refine za fun κ η => ?_ | refine zr (by kernel_rfl) fun κ η => ?_); simp only [go_sem, simprocAttr, b3, hbq, hd', hy']; (repeat refine ⟨by omega, ?_⟩); refine η _ ?_; clear η κ) | (refine zd (hK _ ?_); clear hE hK E K) | apply zb | refine zh true rfl (fun _ => ?_) (fun h => (by cases h)) | apply zi
    refine zr (by kernel_rfl) fun κ η => ?_; simp only [go_sem, simprocAttr, b3, hr2]; refine ⟨_, hs1, ?_⟩; simp only [go_sem, simprocAttr, b3, hr2]; refine η _ ?_; clear η κ
    repeat' first | apply zg | refine zf rfl fun K E hK hE => ?_ | ((first | refine za fun κ η => ?_ | refine zr (by kernel_rfl) fun κ η => ?_); simp only [go_sem, simprocAttr, hr2]; (repeat refine ⟨by omega, ?_⟩); refine η _ ?_; clear η κ) | (refine zd (hK _ ?_); clear hE hK E K) | apply zb | refine zh false rfl (fun h => (by cases h)) fun _ => ?_ | (refine zH (hK _ ?_); clear hE hK E K) | apply zq | apply zi | apply zs
    exact ⟨seq.length - (k + 1), by omega, k + 1, rfl, by omega, hfit, _, _, _, zp rfl ⟨by rw [hS2]; rfl, rfl, rfl, rfl, rfl, trivial⟩ trivial, b3, .inr ⟨_, rfl, by rw [hon]; rfl⟩⟩
  ·rw [hno _ _ hyl] at hs1
   rw [hbad (by
    unfold zbF
    rw [List.all_eq_false]
    exact ⟨y, List.mem_of_getElem? hy3, by rw [decide_eq_false hyl]; decide⟩)]
   generalize stN c st seq k = S1 at *
   generalize hBB : bb seq = BB at *
   repeat' first | apply zg | apply zj | refine zf rfl fun K E hK hE => ?_ | refine zG rfl (by kernel_rfl) fun K E hK hE => ?_ | ((first | refine za fun κ η => ?_ | refine zr (by kernel_rfl) fun κ η => ?_); simp only [go_sem, simprocAttr, b3, hbq, hd', hy']; (repeat refine ⟨by omega, ?_⟩); refine η _ ?_; clear η κ) | (refine zd (hK _ ?_); clear hE hK E K) | apply zb | refine zh true rfl (fun _ => ?_) (fun h => (by cases h)) | apply zi
   refine zr (by kernel_rfl) fun κ η => ?_; simp only [go_sem, simprocAttr, b3]; refine ⟨_, hs1, ?_⟩; simp only [go_sem, simprocAttr, b3]; refine η _ ?_; clear η κ
   repeat' first | apply zg | refine zf rfl fun K E hK hE => ?_ | ((first | refine za fun κ η => ?_ | refine zr (by kernel_rfl) fun κ η => ?_); simp only [go_sem, simprocAttr]; refine η _ ?_; clear η κ) | (refine zd (hK _ ?_); clear hE hK E K) | apply zb | refine zh true rfl (fun _ => ?_) (fun h => (by cases h)) | (refine zH (hK _ ?_); clear hE hK E K) | apply zk | apply zy | apply zJ | apply zL | (apply zm; apply zn; simp only [go_sem, simprocAttr])
   rfl
 obtain rfl : k = seq.length := by omega
 rw [hgood (by
  unfold zbF
  rw [List.all_eq_true]
  intro z hz
  obtain ⟨j, hj⟩ := List.getElem?_of_mem hz
  exact decide_eq_true (hno2 j z (List.getElem?_eq_some_iff.1 hj).1 hj))]
 simp only
 generalize bb (zbi c st seq seq.length) = OB at *
 generalize bl (stN c st seq seq.length) = SB at *
 generalize hBB : bb seq = BB at *
 rcases hy with ⟨y0, rfl⟩ | ⟨q', rfl, hr2⟩
 ·rw [y0]
  repeat' first | apply zg | refine zf rfl fun K E hK hE => ?_ | (refine za fun κ η => ?_; simp only [go_sem, simprocAttr, hbq, Int.lt_irrefl]; refine η _ ?_; clear η κ) | (refine zd (hK _ ?_); clear hE hK E K) | apply zb | refine zh false rfl (fun h => (by cases h)) fun _ => ?_ | apply zt | apply zk | apply zu | apply zw | apply zx | (apply zm; apply zn; simp only [go_sem, simprocAttr, hbq, Int.lt_irrefl])
 ·repeat' first | apply zg | refine zf rfl fun K E hK hE => ?_ | (refine za fun κ η => ?_; simp only [go_sem, simprocAttr, hbq, Int.lt_irrefl, hr2]; refine η _ ?_; clear η κ) | (refine zd (hK _ ?_); clear hE hK E K) | apply zb | refine zh false rfl (fun h => (by cases h)) fun _ => ?_ | apply zt | apply zk | apply zu | apply zw | apply zx | (apply zm; apply zn; simp only [go_sem, simprocAttr, hbq, Int.lt_irrefl, hr2])
theorem zm1 {c : Ci} {st : List Bool} {seq : List (List Bool)} : (zaA c st seq).1.length ≤ seq.length ∧ (∀ x ∈ (zaA c st seq).1, x.length ≤ c.outs.length) ∧ ((zaA c st seq).2.1.length ≤ c.las.length + st.length) := by
 unfold zaA
 split
 ·refine ⟨Nat.le_of_eq (zfd ..), fun x hx => ?_, ?_⟩
  ·obtain ⟨k, _, rfl⟩ := List.mem_map.1 hx
   exact Nat.le_of_eq (zb0 c _ _)
  ·show (stN c st seq seq.length).length ≤ _
   cases seq.length with
   | zero => exact Nat.le_add_left _ _
   | succ n => exact Nat.le_trans (Nat.le_of_eq (ziM c _)) (Nat.le_add_right _ _)
 ·exact ⟨Nat.zero_le _, ⟨fun x hx => (List.not_mem_nil hx).elim, Nat.zero_le _⟩⟩
set_option maxHeartbeats 16000000 in
theorem zm2 (c : Ci) (st : List Bool) (seq : List (List Bool)) (hr : CRoom c) (hgo : GOk c.gts) (hlo : LOk c.las) : Ct Tryz.prog Hy 4 [.ag (cE c), .sl (bl st), .sl (bb seq)] [.b true] := by
 have hw := zjR Hy
 have hfe := zjo Hy c
 have hse := zjP Hy seq 45 (by decide)
 have hb1 := zaX st
 have hb2 := zd3 seq
 cases hl : zc3 c with
 | false =>
  rw [hl] at hfe
  obtain ⟨ins, outs, las, gts⟩ := c
  simp only [cE] at hfe ⊢
  generalize bl st = B1 at *
  generalize bb seq = B2 at *
  refine zI (cls := _root_.id) zB zD Tryz.func4 rfl (by decide) (Nat.le_of_ble_eq_true rfl) ?_
  rw [show Tryz.f4.ntmps = 75 from rfl, zC]
  simp only [List.zipIdx_cons, List.zipIdx_nil, List.map_cons, List.map_nil, Nat.reduceAdd]
  repeat' first | apply zg | refine zf rfl fun K E hK hE => ?_ | (refine za fun κ η => ?_; simp only [go_sem, simprocAttr]; refine η _ ?_; clear η κ) | (refine zd (hK _ ?_); clear hE hK E K) | apply zb
  refine za fun κ η => ?_; simp only [go_sem, simprocAttr]; refine ⟨_, hw, ?_⟩; simp only [go_sem, simprocAttr]; refine η _ ?_; clear η κ
  repeat' first | apply zg | refine zf rfl fun K E hK hE => ?_ | (refine za fun κ η => ?_; simp only [go_sem, simprocAttr]; refine η _ ?_; clear η κ) | (refine zd (hK _ ?_); clear hE hK E K) | apply zb | refine zh false rfl (fun h => (by cases h)) fun _ => ?_ | apply zi
  refine za fun κ η => ?_; simp only [go_sem, simprocAttr]; refine ⟨_, hfe, ?_⟩; simp only [go_sem, simprocAttr]; refine η _ ?_; clear η κ
  repeat' first | apply zg | refine zf rfl fun K E hK hE => ?_ | ((first | refine za fun κ η => ?_ | refine zo rfl fun κ η => ?_); simp only [go_sem, simprocAttr]; refine η _ ?_; clear η κ) | (refine zd (hK _ ?_); clear hE hK E K) | apply zb | refine zh true rfl (fun _ => ?_) (fun h => (by cases h)) | apply zk | apply zy | (apply zm; apply zn; simp only [go_sem, simprocAttr])
 | true =>
 rw [hl] at hfe
 have hf := zmg hl
 cases hq : zbQ seq 45 with
 | false =>
  rw [hq] at hse
  obtain ⟨ins, outs, las, gts⟩ := c
  simp only [cE] at hfe ⊢
  generalize bl st = B1 at *
  generalize bb seq = B2 at *
  refine zI (cls := _root_.id) zB zD Tryz.func4 rfl (by decide) (Nat.le_of_ble_eq_true rfl) ?_
  rw [show Tryz.f4.ntmps = 75 from rfl, zC]
  simp only [List.zipIdx_cons, List.zipIdx_nil, List.map_cons, List.map_nil, Nat.reduceAdd]
  repeat' first | apply zg | refine zf rfl fun K E hK hE => ?_ | (refine za fun κ η => ?_; simp only [go_sem, simprocAttr]; refine η _ ?_; clear η κ) | (refine zd (hK _ ?_); clear hE hK E K) | apply zb
  refine za fun κ η => ?_; simp only [go_sem, simprocAttr]; refine ⟨_, hw, ?_⟩; simp only [go_sem, simprocAttr]; refine η _ ?_; clear η κ
  repeat' first | apply zg | refine zf rfl fun K E hK hE => ?_ | (refine za fun κ η => ?_; simp only [go_sem, simprocAttr]; refine η _ ?_; clear η κ) | (refine zd (hK _ ?_); clear hE hK E K) | apply zb | refine zh false rfl (fun h => (by cases h)) fun _ => ?_ | apply zi
  refine za fun κ η => ?_; simp only [go_sem, simprocAttr]; refine ⟨_, hfe, ?_⟩; simp only [go_sem, simprocAttr]; refine η _ ?_; clear η κ
  repeat' ((first | refine za fun κ η => ?_ | refine zo rfl fun κ η => ?_); simp only [go_sem, simprocAttr]; refine η _ ?_; clear η κ)
  refine zo rfl fun κ η => ?_; simp only [go_sem, simprocAttr]; refine ⟨_, hse, ?_⟩; simp only [go_sem, simprocAttr]; refine η _ ?_; clear η κ
  repeat' first | apply zg | refine zf rfl fun K E hK hE => ?_ | ((first | refine za fun κ η => ?_ | refine zo rfl fun κ η => ?_); simp only [go_sem, simprocAttr]; refine η _ ?_; clear η κ) | (refine zd (hK _ ?_); clear hE hK E K) | apply zb | refine zh true rfl (fun _ => ?_) (fun h => (by cases h)) | apply zk | apply zy | (apply zm; apply zn; simp only [go_sem, simprocAttr])
 | true =>
 rw [hq] at hse
 obtain ⟨hq45, hq60⟩ := zjO hq
 by_cases c1 : st.length ≤ 60
 rotate_left
 ·have c1' : ((60 : Int) < st.length) = True := eq_true (by omega)
  obtain ⟨ins, outs, las, gts⟩ := c
  simp only [cE] at hfe ⊢
  generalize bl st = B1 at *
  generalize bb seq = B2 at *
  refine zI (cls := _root_.id) zB zD Tryz.func4 rfl (by decide) (Nat.le_of_ble_eq_true rfl) ?_
  rw [show Tryz.f4.ntmps = 75 from rfl, zC]
  simp only [List.zipIdx_cons, List.zipIdx_nil, List.map_cons, List.map_nil, Nat.reduceAdd]
  repeat' first | apply zg | refine zf rfl fun K E hK hE => ?_ | (refine za fun κ η => ?_; simp only [go_sem, simprocAttr]; refine η _ ?_; clear η κ) | (refine zd (hK _ ?_); clear hE hK E K) | apply zb
  refine za fun κ η => ?_; simp only [go_sem, simprocAttr]; refine ⟨_, hw, ?_⟩; simp only [go_sem, simprocAttr]; refine η _ ?_; clear η κ
  repeat' first | apply zg | refine zf rfl fun K E hK hE => ?_ | (refine za fun κ η => ?_; simp only [go_sem, simprocAttr]; refine η _ ?_; clear η κ) | (refine zd (hK _ ?_); clear hE hK E K) | apply zb | refine zh false rfl (fun h => (by cases h)) fun _ => ?_ | apply zi
  refine za fun κ η => ?_; simp only [go_sem, simprocAttr]; refine ⟨_, hfe, ?_⟩; simp only [go_sem, simprocAttr]; refine η _ ?_; clear η κ
  repeat' ((first | refine za fun κ η => ?_ | refine zo rfl fun κ η => ?_); simp only [go_sem, simprocAttr]; refine η _ ?_; clear η κ)
  refine zo rfl fun κ η => ?_; simp only [go_sem, simprocAttr]; refine ⟨_, hse, ?_⟩; simp only [go_sem, simprocAttr]; refine η _ ?_; clear η κ
  repeat' first | apply zg | refine zf rfl fun K E hK hE => ?_ | ((first | refine za fun κ η => ?_ | refine zo rfl fun κ η => ?_); simp only [go_sem, simprocAttr, hb1, c1']; refine η _ ?_; clear η κ) | (refine zd (hK _ ?_); clear hE hK E K) | apply zb | refine zh true rfl (fun _ => ?_) (fun h => (by cases h)) | apply zk | apply zy | (apply zm; apply zn; simp only [go_sem, simprocAttr, hb1, c1'])
 have c1' : ((60 : Int) < st.length) = False := eq_false (by omega)
 have hz := hf.sz
 have h1 := hf.ins
 have h2 := hf.outs
 have h3 := hf.las
 have h4 := hf.gts
 have r1 := zgO Hy c st seq hr hgo hlo
 have r2 := zm0 Hy c st seq hr hz
 obtain ⟨l1, l2, l3⟩ := zm1 (c := c) (st := st) (seq := seq)
 have e1 := zgL Hy (zaA c st seq).1 (zaA c st seq).1 (fun x hx => by have := l2 x hx; omega) (fun x hx => by have := l2 x hx; omega) (by omega) (by omega)
 have e2 := zec Hy (zaA c st seq).2.1 (zaA c st seq).2.1 (by omega) (by omega)
 rw [decide_eq_true rfl] at e1 e2
 clear l1 l2 l3 hz h1 h2 h3 h4 hf
 generalize (zaA c st seq).2.2 = E1 at *
 generalize bl (zaA c st seq).2.1 = R1 at *
 generalize bb (zaA c st seq).1 = R2 at *
 obtain ⟨ins, outs, las, gts⟩ := c
 simp only [cE] at hfe r1 r2 ⊢
 generalize bl st = B1 at *
 generalize bb seq = B2 at *
 by_cases c2 : seq.length ≤ 6
 ·have c2' : ((6 : Int) < seq.length) = False := eq_false (by omega)
  refine zI (cls := _root_.id) zB zD Tryz.func4 rfl (by decide) (Nat.le_of_ble_eq_true rfl) ?_
  rw [show Tryz.f4.ntmps = 75 from rfl, zC]
  simp only [List.zipIdx_cons, List.zipIdx_nil, List.map_cons, List.map_nil, Nat.reduceAdd]
  repeat' first | apply zg | refine zf rfl fun K E hK hE => ?_ | (refine za fun κ η => ?_; simp only [go_sem, simprocAttr]; refine η _ ?_; clear η κ) | (refine zd (hK _ ?_); clear hE hK E K) | apply zb
  refine za fun κ η => ?_; simp only [go_sem, simprocAttr]; refine ⟨_, hw, ?_⟩; simp only [go_sem, simprocAttr]; refine η _ ?_; clear η κ
  repeat' first | apply zg | refine zf rfl fun K E hK hE => ?_ | (refine za fun κ η => ?_; simp only [go_sem, simprocAttr]; refine η _ ?_; clear η κ) | (refine zd (hK _ ?_); clear hE hK E K) | apply zb | refine zh false rfl (fun h => (by cases h)) fun _ => ?_ | apply zi
  refine za fun κ η => ?_; simp only [go_sem, simprocAttr]; refine ⟨_, hfe, ?_⟩; simp only [go_sem, simprocAttr]; refine η _ ?_; clear η κ
  repeat' ((first | refine za fun κ η => ?_ | refine zo rfl fun κ η => ?_); simp only [go_sem, simprocAttr]; refine η _ ?_; clear η κ)
  refine zo rfl fun κ η => ?_; simp only [go_sem, simprocAttr]; refine ⟨_, hse, ?_⟩; simp only [go_sem, simprocAttr]; refine η _ ?_; clear η κ
  repeat' first | apply zg | refine zf rfl fun K E hK hE => ?_ | ((first | refine za fun κ η => ?_ | refine zo rfl fun κ η => ?_); simp only [go_sem, simprocAttr, hb1, hb2, c1', c2']; refine η _ ?_; clear η κ) | (refine zd (hK _ ?_); clear hE hK E K) | apply zb | refine zh false rfl (fun h => (by cases h)) fun _ => ?_ | apply zi
  refine za fun κ η => ?_; simp only [go_sem, simprocAttr]; refine ⟨_, r1, ?_⟩; simp only [go_sem, simprocAttr]; refine η _ ?_; clear η κ
  repeat' first | apply zg | refine zf rfl fun K E hK hE => ?_ | (refine za fun κ η => ?_; simp only [go_sem, simprocAttr]; refine η _ ?_; clear η κ) | (refine zd (hK _ ?_); clear hE hK E K) | apply zb
  refine za fun κ η => ?_; simp only [go_sem, simprocAttr]; refine ⟨_, r2, ?_⟩; simp only [go_sem, simprocAttr]; refine η _ ?_; clear η κ
  repeat' first | apply zg | refine zf rfl fun K E hK hE => ?_ | ((first | refine za fun κ η => ?_ | refine zo rfl fun κ η => ?_); simp only [go_sem, simprocAttr]; refine η _ ?_; clear η κ) | (refine zd (hK _ ?_); clear hE hK E K) | apply zb
  refine zo rfl fun κ η => ?_; simp only [go_sem, simprocAttr]; refine ⟨_, e1, ?_⟩; simp only [go_sem, simprocAttr]; refine η _ ?_; clear η κ
  repeat' ((first | refine za fun κ η => ?_ | refine zo rfl fun κ η => ?_); simp only [go_sem, simprocAttr]; refine η _ ?_; clear η κ)
  refine zo rfl fun κ η => ?_; simp only [go_sem, simprocAttr]; refine ⟨_, e2, ?_⟩; simp only [go_sem, simprocAttr]; refine η _ ?_; clear η κ
  repeat' first | ((first | refine za fun κ η => ?_ | refine zo rfl fun κ η => ?_); simp only [go_sem, simprocAttr, eq_self, decide_true]; refine η _ ?_; clear η κ) | (refine zd (hK _ ?_); clear hE hK E K) | apply zb | apply zk | (apply zm; apply zn; simp only [go_sem, simprocAttr, eq_self, decide_true])
 have c2' : ((6 : Int) < seq.length) = True := eq_true (by omega)
 by_cases c3 : gts.length ≤ 12
 ·have c3' : ((12 : Int) < gts.length) = False := eq_false (by omega)
  refine zI (cls := _root_.id) zB zD Tryz.func4 rfl (by decide) (Nat.le_of_ble_eq_true rfl) ?_
  rw [show Tryz.f4.ntmps = 75 from rfl, zC]
  simp only [List.zipIdx_cons, List.zipIdx_nil, List.map_cons, List.map_nil, Nat.reduceAdd]
  repeat' first | apply zg | refine zf rfl fun K E hK hE => ?_ | (refine za fun κ η => ?_; simp only [go_sem, simprocAttr]; refine η _ ?_; clear η κ) | (refine zd (hK _ ?_); clear hE hK E K) | apply zb
  refine za fun κ η => ?_; simp only [go_sem, simprocAttr]; refine ⟨_, hw, ?_⟩; simp only [go_sem, simprocAttr]; refine η _ ?_; clear η κ
  repeat' first | apply zg | refine zf rfl fun K E hK hE => ?_ | (refine za fun κ η => ?_; simp only [go_sem, simprocAttr]; refine η _ ?_; clear η κ) | (refine zd (hK _ ?_); clear hE hK E K) | apply zb | refine zh false rfl (fun h => (by cases h)) fun _ => ?_ | apply zi
  refine za fun κ η => ?_; simp only [go_sem, simprocAttr]; refine ⟨_, hfe, ?_⟩; simp only [go_sem, simprocAttr]; refine η _ ?_; clear η κ
  repeat' ((first | refine za fun κ η => ?_ | refine zo rfl fun κ η => ?_); simp only [go_sem, simprocAttr]; refine η _ ?_; clear η κ)
  refine zo rfl fun κ η => ?_; simp only [go_sem, simprocAttr]; refine ⟨_, hse, ?_⟩; simp only [go_sem, simprocAttr]; refine η _ ?_; clear η κ
  repeat' first | apply zg | refine zf rfl fun K E hK hE => ?_ | ((first | refine za fun κ η => ?_ | refine zo rfl fun κ η => ?_); simp only [go_sem, simprocAttr, hb1, hb2, c1', c2', c3']; (repeat refine ⟨by omega, ?_⟩); refine η _ ?_; clear η κ) | (refine zd (hK _ ?_); clear hE hK E K) | apply zb | refine zh false rfl (fun h => (by cases h)) fun _ => ?_ | apply zi
  refine za fun κ η => ?_; simp only [go_sem, simprocAttr]; refine ⟨_, r1, ?_⟩; simp only [go_sem, simprocAttr]; refine η _ ?_; clear η κ
  repeat' first | apply zg | refine zf rfl fun K E hK hE => ?_ | (refine za fun κ η => ?_; simp only [go_sem, simprocAttr]; refine η _ ?_; clear η κ) | (refine zd (hK _ ?_); clear hE hK E K) | apply zb
  refine za fun κ η => ?_; simp only [go_sem, simprocAttr]; refine ⟨_, r2, ?_⟩; simp only [go_sem, simprocAttr]; refine η _ ?_; clear η κ
  repeat' first | apply zg | refine zf rfl fun K E hK hE => ?_ | ((first | refine za fun κ η => ?_ | refine zo rfl fun κ η => ?_); simp only [go_sem, simprocAttr]; refine η _ ?_; clear η κ) | (refine zd (hK _ ?_); clear hE hK E K) | apply zb
  refine zo rfl fun κ η => ?_; simp only [go_sem, simprocAttr]; refine ⟨_, e1, ?_⟩; simp only [go_sem, simprocAttr]; refine η _ ?_; clear η κ
  repeat' ((first | refine za fun κ η => ?_ | refine zo rfl fun κ η => ?_); simp only [go_sem, simprocAttr]; refine η _ ?_; clear η κ)
  refine zo rfl fun κ η => ?_; simp only [go_sem, simprocAttr]; refine ⟨_, e2, ?_⟩; simp only [go_sem, simprocAttr]; refine η _ ?_; clear η κ
  repeat' first | ((first | refine za fun κ η => ?_ | refine zo rfl fun κ η => ?_); simp only [go_sem, simprocAttr, eq_self, decide_true]; refine η _ ?_; clear η κ) | (refine zd (hK _ ?_); clear hE hK E K) | apply zb | apply zk | (apply zm; apply zn; simp only [go_sem, simprocAttr, eq_self, decide_true])
 have c3' : ((12 : Int) < gts.length) = True := eq_true (by omega)
 refine zI (cls := _root_.id) zB zD Tryz.func4 rfl (by decide) (Nat.le_of_ble_eq_true rfl) ?_
 rw [show Tryz.f4.ntmps = 75 from rfl, zC]
 simp only [List.zipIdx_cons, List.zipIdx_nil, List.map_cons, List.map_nil, Nat.reduceAdd]
 repeat' first | apply zg | refine zf rfl fun K E hK hE => ?_ | (refine za fun κ η => ?_; simp only [go_sem, simprocAttr]; refine η _ ?_; clear η κ) | (refine zd (hK _ ?_); clear hE hK E K) | apply zb
 refine za fun κ η => ?_; simp only [go_sem, simprocAttr]; refine ⟨_, hw, ?_⟩; simp only [go_sem, simprocAttr]; refine η _ ?_; clear η κ
 repeat' first | apply zg | refine zf rfl fun K E hK hE => ?_ | (refine za fun κ η => ?_; simp only [go_sem, simprocAttr]; refine η _ ?_; clear η κ) | (refine zd (hK _ ?_); clear hE hK E K) | apply zb | refine zh false rfl (fun h => (by cases h)) fun _ => ?_ | apply zi
 refine za fun κ η => ?_; simp only [go_sem, simprocAttr]; refine ⟨_, hfe, ?_⟩; simp only [go_sem, simprocAttr]; refine η _ ?_; clear η κ
 repeat' ((first | refine za fun κ η => ?_ | refine zo rfl fun κ η => ?_); simp only [go_sem, simprocAttr]; refine η _ ?_; clear η κ)
 refine zo rfl fun κ η => ?_; simp only [go_sem, simprocAttr]; refine ⟨_, hse, ?_⟩; simp only [go_sem, simprocAttr]; refine η _ ?_; clear η κ
 repeat' first | apply zg | refine zf rfl fun K E hK hE => ?_ | ((first | refine za fun κ η => ?_ | refine zo rfl fun κ η => ?_); simp only [go_sem, simprocAttr, hb1, hb2, c1', c2', c3']; (repeat refine ⟨by omega, ?_⟩); refine η _ ?_; clear η κ) | (refine zd (hK _ ?_); clear hE hK E K) | apply zb | refine zh true rfl (fun _ => ?_) (fun h => (by cases h)) | apply zk | apply zy | (apply zm; apply zn; simp only [go_sem, simprocAttr, hb1, hb2, c1', c2', c3'])
end Go.Proofs.YtbhoeanfnbkenaaGreatDoor
