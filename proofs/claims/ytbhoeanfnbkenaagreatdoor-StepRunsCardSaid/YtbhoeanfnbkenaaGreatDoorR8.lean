import Derived.Test.YtbhoeanfnbkenaaGreatDoorR7
namespace Go.Proofs.YtbhoeanfnbkenaaGreatDoor
open Go.RowKit Go.WideMaps
set_option maxRecDepth 100000
set_option linter.unusedSimpArgs false
variable (Hy : World → Prop)
attribute [local irreducible] zU zY cwp z1 z6 lpQ z8 asQ bdQ bdY zab zac zad zaa
set_option maxHeartbeats 2000000 in
theorem zjf (c : Ci) (hr : CRoom c) : Ct Tryz.prog Hy 83 [.ag (cE c)] [.b (zaW c)] := by
 obtain ⟨ins, outs, las, gts⟩ := c
 obtain ⟨h1, h2, h3, h4⟩ := hr
 simp only at h1 h2 h3 h4
 refine zI (cls := _root_.id) zB zD Tryz.func83 rfl (by decide) (Nat.le_of_ble_eq_true rfl) ?_
 rw [show Tryz.f83.ntmps = 47 from rfl, zC]
 simp only [List.zipIdx_cons, List.zipIdx_nil, List.map_cons, List.map_nil, Nat.reduceAdd, cE]
 repeat' first | apply zg | apply zj | refine zf rfl fun K E hK hE => ?_ | (refine za fun κ η => ?_; simp only [go_sem, simprocAttr]; refine η _ ?_; clear η κ) | (refine zd (hK _ ?_); clear hE hK E K) | apply zb
 refine zW (fun m s' => ∃ k : Nat, m = gts.length - k ∧ k ≤ gts.length ∧ (∀ (j : Nat) y, j < k → gts[j]? = some y → zbf y = false) ∧ ∃ F G0, s' = nf 47 F G0 [(1, .ptr 1 1 0), (3, .t (.i .i64 k))] [(1, ⟨1, .cells 26 [.t (.sl (sR ins)), .t (.sl (sR outs)), .t (.sl (lsR las)), .t (.sl (gsR gts))]⟩)]) (gts.length) ?_ ?_
 ·exact ⟨0, by omega, by omega, fun j c hj => absurd hj (Nat.not_lt_zero j), _, _, zp rfl ⟨rfl, rfl, trivial⟩ ⟨rfl, trivial⟩⟩
 rintro m s' ⟨k, rfl, hk, hno, F, G0, rfl⟩
 repeat' first | apply zg | refine zf rfl fun K E hK hE => ?_ | (refine za fun κ η => ?_; simp only [go_sem, simprocAttr]; (repeat refine ⟨by omega, ?_⟩); refine η _ ?_; clear η κ) | (refine zd (hK _ ?_); clear hE hK E K) | apply zb
 refine zh _ rfl (fun hq => ?_) (fun hq => ?_)
 ·simp only [decide_eq_true_eq] at hq
  obtain ⟨x, hx⟩ : ∃ x, gts[k]? = some x := ⟨_, List.getElem?_eq_getElem (by omega)⟩
  have hx' := zaQ hx
  have hbad : zbf x = true → zaW ⟨ins, outs, las, gts⟩ = true := fun h => by
   have : gts.any zbf = true := List.any_eq_true.2 ⟨x, List.mem_of_getElem? hx, h⟩
   rw [zaW, this, Bool.or_true, Bool.or_true]
  by_cases d1 : 8 < x.ins.length
  ·repeat' first | apply zg | apply zj | refine zf rfl fun K E hK hE => ?_ | ((first | refine za fun κ η => ?_ | refine zo rfl fun κ η => ?_); simp only [go_sem, simprocAttr, hx', eq_true (show (8 : Int) < x.ins.length by omega)]; (repeat refine ⟨by omega, ?_⟩); refine η _ ?_; clear η κ) | (refine zd (hK _ ?_); clear hE hK E K) | apply zb | refine zh true rfl (fun _ => ?_) (fun h => (by cases h)) | apply zi | apply zk | apply zy | apply zJ | apply zL | (apply zm; apply zn; simp only [go_sem, simprocAttr, hx', eq_true (show (8 : Int) < x.ins.length by omega)])
   rw [hbad (by rw [zbf, decide_eq_true d1]; rfl)]
  have d1' : ((8 : Int) < x.ins.length) = False := eq_false (by omega)
  by_cases d2 : 128 < x.rows.length
  ·repeat' first | apply zg | apply zj | refine zf rfl fun K E hK hE => ?_ | ((first | refine za fun κ η => ?_ | refine zo rfl fun κ η => ?_); simp only [go_sem, simprocAttr, hx', d1', eq_true (show (128 : Int) < x.rows.length by omega)]; (repeat refine ⟨by omega, ?_⟩); refine η _ ?_; clear η κ) | (refine zd (hK _ ?_); clear hE hK E K) | apply zb | refine zh true rfl (fun _ => ?_) (fun h => (by cases h)) | apply zi | apply zk | apply zy | apply zJ | apply zL | (apply zm; apply zn; simp only [go_sem, simprocAttr, hx', d1', eq_true (show (128 : Int) < x.rows.length by omega)])
   rw [hbad (by rw [zbf, decide_eq_true d2, Bool.or_true])]
  ·repeat' first | apply zg | apply zj | refine zf rfl fun K E hK hE => ?_ | ((first | refine za fun κ η => ?_ | refine zo rfl fun κ η => ?_); simp only [go_sem, simprocAttr, hx', d1', eq_false (show ¬ (128 : Int) < x.rows.length by omega)]; (repeat refine ⟨by omega, ?_⟩); refine η _ ?_; clear η κ) | (refine zd (hK _ ?_); clear hE hK E K) | apply zb | refine zh false rfl (fun h => (by cases h)) fun _ => ?_ | apply zq | apply zi | apply zs
   refine ⟨gts.length - (k + 1), by omega, k + 1, rfl, by omega, fun j y hj hy => ?_, _, _, zp rfl ⟨rfl, rfl, trivial⟩ ⟨rfl, trivial⟩⟩
   rcases Nat.lt_or_eq_of_le (Nat.lt_succ_iff.1 hj) with h | rfl
   ·exact hno j y h hy
   ·rw [hx] at hy; cases hy
    rw [zbf, decide_eq_false d1, decide_eq_false d2]
    rfl
 ·simp only [decide_eq_false_iff_not] at hq
  have ha : gts.any zbf = false := List.any_eq_false.2 fun x hx => by
   obtain ⟨j, hj⟩ := List.getElem?_of_mem hx
   rw [hno j x (by have := (List.getElem?_eq_some_iff.1 hj).1; omega) hj]
   decide
  have hb : zaW ⟨ins, outs, las, gts⟩ = (decide ((200 : Int) < ins.length + las.length + gts.length) || decide ((200 : Int) < outs.length)) := by
   rw [zaW, ha, Bool.or_false]
   congr 1 <;> rw [decide_eq_decide] <;> simp only <;> omega
  rw [hb]
  by_cases c1 : (200 : Int) < ins.length + las.length + gts.length
  ·repeat' first | apply zg | refine zf rfl fun K E hK hE => ?_ | ((first | refine za fun κ η => ?_ | refine zo rfl fun κ η => ?_); simp only [go_sem, simprocAttr, eq_true c1]; (repeat refine ⟨by omega, ?_⟩); refine η _ ?_; clear η κ) | (refine zd (hK _ ?_); clear hE hK E K) | apply zb | apply zt | apply zk | apply zu | apply zw | apply zx | (apply zm; apply zn; simp only [go_sem, simprocAttr, eq_true c1])
  ·rw [decide_eq_false c1, Bool.false_or]
   repeat' first | apply zg | refine zf rfl fun K E hK hE => ?_ | ((first | refine za fun κ η => ?_ | refine zo rfl fun κ η => ?_); simp only [go_sem, simprocAttr, eq_false c1]; (repeat refine ⟨by omega, ?_⟩); refine η _ ?_; clear η κ) | (refine zd (hK _ ?_); clear hE hK E K) | apply zb | apply zt | apply zk | apply zu | apply zw | apply zx | (apply zm; apply zn; simp only [go_sem, simprocAttr, eq_false c1])
set_option maxHeartbeats 2000000 in
theorem zge (c : Ci) (hc : CFit c) : Ct Tryz.prog Hy 47 [.ag (cE c)] [.sl (sR (z2 c))] := by
 obtain ⟨ins, outs, las, gts⟩ := c
 obtain ⟨h1, _, h3, h4⟩ := hc
 simp only at h1 h3 h4
 have hz0 := zbs ins
 refine zI (cls := _root_.id) zB zD Tryz.func47 rfl (by decide) (Nat.le_of_ble_eq_true rfl) ?_
 rw [show Tryz.f47.ntmps = 43 from rfl, zC]
 simp only [List.zipIdx_cons, List.zipIdx_nil, List.map_cons, List.map_nil, Nat.reduceAdd, cE]
 repeat' first | apply zg | apply zj | refine zf rfl fun K E hK hE => ?_ | (refine za fun κ η => ?_; simp only [go_sem, simprocAttr]; (repeat refine ⟨by omega, ?_⟩); refine η _ ?_; clear η κ) | (refine zd (hK _ ?_); clear hE hK E K) | apply zb
 refine zW (fun m s' => ∃ k : Nat, m = las.length - k ∧ k ≤ las.length ∧ ∃ F G0 q, s' = nf 43 F G0 [(1, .ptr 1 1 0), (3, .row 9 q), (4, .t (.i .i64 k))] [] ∧ G0 1 = ⟨1, .cells 26 [.t (.sl (sR ins)), .t (.sl (sR outs)), .t (.sl (lsR las)), .t (.sl (gsR gts))]⟩ ∧ G0 9 = ⟨q, .row 9 1 (sR (ins ++ (las.take k).map (·.name)))⟩) las.length ?_ ?_
 ·exact ⟨0, by omega, by omega, _, _, _, zp rfl ⟨rfl, rfl, rfl, trivial⟩ trivial, rfl, by rw [List.take_zero, List.map_nil, List.append_nil]; rfl⟩
 rintro m s' ⟨k, rfl, hk, F, G0, q, rfl, g1, g2⟩
 have hb : (ins ++ (las.take k).map (·.name)).length ≤ 2000000 := by rw [List.length_append, List.length_map, List.length_take]; omega
 repeat' first | apply zg | refine zf rfl fun K E hK hE => ?_ | (refine za fun κ η => ?_; simp only [go_sem, simprocAttr, g1]; (repeat refine ⟨by omega, ?_⟩); refine η _ ?_; clear η κ) | (refine zd (hK _ ?_); clear hE hK E K) | apply zb
 refine zh _ rfl (fun hq => ?_) (fun hq => ?_)
 ·simp only [decide_eq_true_eq] at hq
  obtain ⟨x, hx⟩ : ∃ x, las[k]? = some x := ⟨_, List.getElem?_eq_getElem (by omega)⟩
  have hx' := zbv hx
  have hs : sR (ins ++ (las.take (k + 1)).map (·.name)) = sR (ins ++ (las.take k).map (·.name)) ++ [[.s x.name]] := by
   rw [List.take_add_one, hx, List.map_append, ← List.append_assoc, zbC]
   rfl
  generalize ins ++ (las.take k).map (·.name) = w at g2 hs hb
  repeat' first | apply zg | apply zj | refine zf rfl fun K E hK hE => ?_ | (refine za fun κ η => ?_; simp only [go_sem, simprocAttr, hx', g1, g2]; (repeat refine ⟨by omega, ?_⟩); refine η _ ?_; clear η κ) | (refine zd (hK _ ?_); clear hE hK E K) | apply zb | apply zq | apply zi | apply zs
  exact ⟨las.length - (k + 1), by omega, k + 1, rfl, by omega, _, _, _, zp rfl ⟨rfl, rfl, rfl, trivial⟩ trivial, g1, by rw [hs]; rfl⟩
 ·simp only [decide_eq_false_iff_not] at hq
  rw [List.take_of_length_le (by omega)] at g2
  repeat' first | apply zg | apply zj | refine zf rfl fun K E hK hE => ?_ | (refine za fun κ η => ?_; simp only [go_sem, simprocAttr, g1]; refine η _ ?_; clear η κ) | (refine zd (hK _ ?_); clear hE hK E K) | apply zb | apply zt | apply zu | apply zw | apply zx
  refine zW (fun m s' => ∃ k : Nat, m = gts.length - k ∧ k ≤ gts.length ∧ ∃ F G0 q, s' = nf 43 F G0 [(1, .ptr 1 1 0), (3, .row 9 q), (5, .t (.i .i64 k))] [] ∧ G0 1 = ⟨1, .cells 26 [.t (.sl (sR ins)), .t (.sl (sR outs)), .t (.sl (lsR las)), .t (.sl (gsR gts))]⟩ ∧ G0 9 = ⟨q, .row 9 1 (sR (ins ++ (las.map (·.name) ++ (gts.take k).map (·.name))))⟩) gts.length ?_ ?_
  ·exact ⟨0, by omega, by omega, _, _, _, zp rfl ⟨rfl, rfl, rfl, trivial⟩ trivial, g1, by rw [List.take_zero, List.map_nil, List.append_nil]; exact g2⟩
  clear g1 g2 hb
  rintro m s' ⟨k, rfl, hk, F, G0, q, rfl, g1, g2⟩
  have hb : (ins ++ (las.map (·.name) ++ (gts.take k).map (·.name))).length ≤ 3000000 := by rw [List.length_append, List.length_append, List.length_map, List.length_map, List.length_take]; omega
  repeat' first | apply zg | refine zf rfl fun K E hK hE => ?_ | (refine za fun κ η => ?_; simp only [go_sem, simprocAttr, g1]; (repeat refine ⟨by omega, ?_⟩); refine η _ ?_; clear η κ) | (refine zd (hK _ ?_); clear hE hK E K) | apply zb
  refine zh _ rfl (fun hq => ?_) (fun hq => ?_)
  ·simp only [decide_eq_true_eq] at hq
   obtain ⟨x, hx⟩ : ∃ x, gts[k]? = some x := ⟨_, List.getElem?_eq_getElem (by omega)⟩
   have hx' := zaQ hx
   have hs : sR (ins ++ (las.map (·.name) ++ (gts.take (k + 1)).map (·.name))) = sR (ins ++ (las.map (·.name) ++ (gts.take k).map (·.name))) ++ [[.s x.name]] := by
    rw [List.take_add_one, hx, List.map_append, ← List.append_assoc, ← List.append_assoc, ← List.append_assoc, zbC]
    rfl
   generalize ins ++ (las.map (·.name) ++ (gts.take k).map (·.name)) = w at g2 hs hb
   repeat' first | apply zg | apply zj | refine zf rfl fun K E hK hE => ?_ | (refine za fun κ η => ?_; simp only [go_sem, simprocAttr, hx', g1, g2]; (repeat refine ⟨by omega, ?_⟩); refine η _ ?_; clear η κ) | (refine zd (hK _ ?_); clear hE hK E K) | apply zb | apply zq | apply zi | apply zs
   exact ⟨gts.length - (k + 1), by omega, k + 1, rfl, by omega, _, _, _, zp rfl ⟨rfl, rfl, rfl, trivial⟩ trivial, g1, by rw [hs]; rfl⟩
  ·simp only [decide_eq_false_iff_not] at hq
   rw [List.take_of_length_le (by omega)] at g2
   have hz := zbs (z2 ⟨ins, outs, las, gts⟩)
   have g2 : G0 9 = ⟨q, .row 9 1 (sR (z2 ⟨ins, outs, las, gts⟩))⟩ := g2
   repeat' first | apply zg | refine zf rfl fun K E hK hE => ?_ | (refine za fun κ η => ?_; simp only [go_sem, simprocAttr, g2]; refine η _ ?_; clear η κ) | (refine zd (hK _ ?_); clear hE hK E K) | apply zb | apply zt | apply zk | apply zu | apply zw | apply zx | (apply zm; apply zn; simp only [go_sem, simprocAttr, g2])
theorem zdy {α : Type} (f : α → List ByteArray) (b : Nat) : ∀ m : List α, (∀ g ∈ m, (f g).length ≤ b) → (m.flatMap f).length ≤ m.length * b
 | [], _ => by simp
 | g :: m, h => by
  have h1 := zdy f b m fun x hx => h x (List.mem_cons_of_mem _ hx)
  have h2 := h g List.mem_cons_self
  rw [List.flatMap_cons, List.length_append, List.length_cons, Nat.add_mul]
  omega
theorem zeV {α : Type} (f : α → List ByteArray) (b n : Nat) (m : List α) (hn : m.length ≤ n) (h : ∀ g ∈ m, (f g).length ≤ b) (k : Nat) : ((m.take k).flatMap f).length ≤ n * b := by
 have h1 := zdy f b (m.take k) fun x hx => h x (List.mem_of_mem_take hx)
 rw [List.length_take] at h1
 exact Nat.le_trans h1 (Nat.mul_le_mul_right _ (by omega))
set_option maxHeartbeats 2000000 in
theorem zjg (c : Ci) (hc : CFit c) (hg1 : c.gts.length ≤ 1000) (hg : ∀ g ∈ c.gts, g.ins.length ≤ 1000) : Ct Tryz.prog Hy 87 [.ag (cE c)] [.sl (sR (zbg c))] := by
 obtain ⟨ins, outs, las, gts⟩ := c
 obtain ⟨_, h2, h3, h4⟩ := hc
 simp only at h2 h3 h4 hg1 hg
 have hz0 := zbs outs
 have hfl := zeV (·.ins) 1000 1000 gts hg1 hg
 refine zI (cls := _root_.id) zB zD Tryz.func87 rfl (by decide) (Nat.le_of_ble_eq_true rfl) ?_
 rw [show Tryz.f87.ntmps = 42 from rfl, zC]
 simp only [List.zipIdx_cons, List.zipIdx_nil, List.map_cons, List.map_nil, Nat.reduceAdd, cE]
 repeat' first | apply zg | apply zj | refine zf rfl fun K E hK hE => ?_ | (refine za fun κ η => ?_; simp only [go_sem, simprocAttr]; (repeat refine ⟨by omega, ?_⟩); refine η _ ?_; clear η κ) | (refine zd (hK _ ?_); clear hE hK E K) | apply zb
 refine zW (fun m s' => ∃ k : Nat, m = las.length - k ∧ k ≤ las.length ∧ ∃ F G0 q, s' = nf 42 F G0 [(1, .ptr 1 1 0), (3, .row 9 q), (4, .t (.i .i64 k))] [] ∧ G0 1 = ⟨1, .cells 26 [.t (.sl (sR ins)), .t (.sl (sR outs)), .t (.sl (lsR las)), .t (.sl (gsR gts))]⟩ ∧ G0 9 = ⟨q, .row 9 1 (sR (outs ++ (las.take k).map (·.next)))⟩) las.length ?_ ?_
 ·exact ⟨0, by omega, by omega, _, _, _, zp rfl ⟨rfl, rfl, rfl, trivial⟩ trivial, rfl, by rw [List.take_zero, List.map_nil, List.append_nil]; rfl⟩
 rintro m s' ⟨k, rfl, hk, F, G0, q, rfl, g1, g2⟩
 have hb : (outs ++ (las.take k).map (·.next)).length ≤ 2000000 := by rw [List.length_append, List.length_map, List.length_take]; omega
 repeat' first | apply zg | refine zf rfl fun K E hK hE => ?_ | (refine za fun κ η => ?_; simp only [go_sem, simprocAttr, g1]; (repeat refine ⟨by omega, ?_⟩); refine η _ ?_; clear η κ) | (refine zd (hK _ ?_); clear hE hK E K) | apply zb
 refine zh _ rfl (fun hq => ?_) (fun hq => ?_)
 ·simp only [decide_eq_true_eq] at hq
  obtain ⟨x, hx⟩ : ∃ x, las[k]? = some x := ⟨_, List.getElem?_eq_getElem (by omega)⟩
  have hx' := zbv hx
  have hs : sR (outs ++ (las.take (k + 1)).map (·.next)) = sR (outs ++ (las.take k).map (·.next)) ++ [[.s x.next]] := by
   rw [List.take_add_one, hx, List.map_append, ← List.append_assoc, zbC]
   rfl
  generalize outs ++ (las.take k).map (·.next) = w at g2 hs hb
  repeat' first | apply zg | apply zj | refine zf rfl fun K E hK hE => ?_ | (refine za fun κ η => ?_; simp only [go_sem, simprocAttr, hx', g1, g2]; (repeat refine ⟨by omega, ?_⟩); refine η _ ?_; clear η κ) | (refine zd (hK _ ?_); clear hE hK E K) | apply zb | apply zq | apply zi | apply zs
  exact ⟨las.length - (k + 1), by omega, k + 1, rfl, by omega, _, _, _, zp rfl ⟨rfl, rfl, rfl, trivial⟩ trivial, g1, by rw [hs]; rfl⟩
 ·simp only [decide_eq_false_iff_not] at hq
  rw [List.take_of_length_le (by omega)] at g2
  repeat' first | apply zg | apply zj | refine zf rfl fun K E hK hE => ?_ | (refine za fun κ η => ?_; simp only [go_sem, simprocAttr, g1]; refine η _ ?_; clear η κ) | (refine zd (hK _ ?_); clear hE hK E K) | apply zb | apply zt | apply zu | apply zw | apply zx
  refine zW (fun m s' => ∃ k : Nat, m = gts.length - k ∧ k ≤ gts.length ∧ ∃ F G0 q, s' = nf 42 F G0 [(1, .ptr 1 1 0), (3, .row 9 q), (5, .t (.i .i64 k))] [] ∧ G0 1 = ⟨1, .cells 26 [.t (.sl (sR ins)), .t (.sl (sR outs)), .t (.sl (lsR las)), .t (.sl (gsR gts))]⟩ ∧ G0 9 = ⟨q, .row 9 1 (sR ((outs ++ las.map (·.next)) ++ (gts.take k).flatMap (·.ins)))⟩) gts.length ?_ ?_
  ·exact ⟨0, by omega, by omega, _, _, _, zp rfl ⟨rfl, rfl, rfl, trivial⟩ trivial, g1, by rw [List.take_zero, List.flatMap_nil, List.append_nil]; exact g2⟩
  clear g1 g2 hb
  rintro m s' ⟨k, rfl, hk, F, G0, q, rfl, g1, g2⟩
  have hb : ((outs ++ las.map (·.next)) ++ (gts.take k).flatMap (·.ins)).length ≤ 3000000 := by
   have := hfl k
   rw [List.length_append, List.length_append, List.length_map]; omega
  repeat' first | apply zg | refine zf rfl fun K E hK hE => ?_ | (refine za fun κ η => ?_; simp only [go_sem, simprocAttr, g1]; (repeat refine ⟨by omega, ?_⟩); refine η _ ?_; clear η κ) | (refine zd (hK _ ?_); clear hE hK E K) | apply zb
  refine zh _ rfl (fun hq => ?_) (fun hq => ?_)
  ·simp only [decide_eq_true_eq] at hq
   obtain ⟨x, hx⟩ : ∃ x, gts[k]? = some x := ⟨_, List.getElem?_eq_getElem (by omega)⟩
   have hx' := zaQ hx
   have hxl := hg x (List.mem_of_getElem? hx)
   have hs := ziP (outs ++ las.map (·.next)) hx
   have hso := zbs x.ins
   generalize (outs ++ las.map (·.next)) ++ (gts.take k).flatMap (·.ins) = w at g2 hs hb
   repeat' first | apply zg | apply zj | refine zf rfl fun K E hK hE => ?_ | (refine za fun κ η => ?_; simp only [go_sem, simprocAttr, hx', g1, g2, eq_true hso]; (repeat refine ⟨by omega, ?_⟩); refine η _ ?_; clear η κ) | (refine zd (hK _ ?_); clear hE hK E K) | apply zb | apply zq | apply zi | apply zs
   exact ⟨gts.length - (k + 1), by omega, k + 1, rfl, by omega, _, _, _, zp rfl ⟨rfl, rfl, rfl, trivial⟩ trivial, g1, by rw [hs]; rfl⟩
  ·simp only [decide_eq_false_iff_not] at hq
   rw [List.take_of_length_le (by omega), List.append_assoc] at g2
   have hz := zbs (zbg ⟨ins, outs, las, gts⟩)
   have g2 : G0 9 = ⟨q, .row 9 1 (sR (zbg ⟨ins, outs, las, gts⟩))⟩ := g2
   repeat' first | apply zg | refine zf rfl fun K E hK hE => ?_ | (refine za fun κ η => ?_; simp only [go_sem, simprocAttr, g2]; refine η _ ?_; clear η κ) | (refine zd (hK _ ?_); clear hE hK E K) | apply zb | apply zt | apply zk | apply zu | apply zw | apply zx | (apply zm; apply zn; simp only [go_sem, simprocAttr, g2])
set_option maxHeartbeats 4000000 in
theorem zjh (c : Ci) (hc : CFit c) (hg1 : c.gts.length ≤ 1000) (hg : ∀ g ∈ c.gts, g.ins.length ≤ 1000) : Ct Tryz.prog Hy 84 [.ag (cE c)] [.sl (sR (zar c))] := by
 obtain ⟨ins, outs, las, gts⟩ := c
 obtain ⟨h1, h2, h3, h4⟩ := hc
 simp only at h1 h2 h3 h4 hg1 hg
 have hz0 := zbs ins
 have hz1 := zbs outs
 have hfg := zeV gtT 1001 1000 gts hg1 fun g h => by show (g.ins.length + 1) ≤ _; have := hg g h; omega
 have hfa := zeV laT 2 1000000 las h3 fun g h => by show 2 ≤ 2; omega
 refine zI (cls := _root_.id) zB zD Tryz.func84 rfl (by decide) (Nat.le_of_ble_eq_true rfl) ?_
 rw [show Tryz.f84.ntmps = 61 from rfl, zC]
 simp only [List.zipIdx_cons, List.zipIdx_nil, List.map_cons, List.map_nil, Nat.reduceAdd, cE]
 repeat' first | apply zg | apply zj | refine zf rfl fun K E hK hE => ?_ | (refine za fun κ η => ?_; simp only [go_sem, simprocAttr, eq_true hz1]; (repeat refine ⟨by omega, ?_⟩); refine η _ ?_; clear η κ) | (refine zd (hK _ ?_); clear hE hK E K) | apply zb
 refine zW (fun m s' => ∃ k : Nat, m = las.length - k ∧ k ≤ las.length ∧ ∃ F G0 q, s' = nf 61 F G0 [(1, .ptr 1 1 0), (3, .row 9 q), (4, .t (.i .i64 k))] [] ∧ G0 1 = ⟨1, .cells 26 [.t (.sl (sR ins)), .t (.sl (sR outs)), .t (.sl (lsR las)), .t (.sl (gsR gts))]⟩ ∧ G0 9 = ⟨q, .row 9 1 (sR ((ins ++ outs) ++ (las.take k).flatMap laT))⟩) las.length ?_ ?_
 ·exact ⟨0, by omega, by omega, _, _, _, zp rfl ⟨rfl, rfl, rfl, trivial⟩ trivial, rfl, by rw [List.take_zero, List.flatMap_nil, List.append_nil, zbC]; rfl⟩
 rintro m s' ⟨k, rfl, hk, F, G0, q, rfl, g1, g2⟩
 have hb : ((ins ++ outs) ++ (las.take k).flatMap laT).length ≤ 5000000 := by have := hfa k; rw [List.length_append, List.length_append]; omega
 repeat' first | apply zg | refine zf rfl fun K E hK hE => ?_ | (refine za fun κ η => ?_; simp only [go_sem, simprocAttr, g1]; (repeat refine ⟨by omega, ?_⟩); refine η _ ?_; clear η κ) | (refine zd (hK _ ?_); clear hE hK E K) | apply zb
 refine zh _ rfl (fun hq => ?_) (fun hq => ?_)
 ·simp only [decide_eq_true_eq] at hq
  obtain ⟨x, hx⟩ : ∃ x, las[k]? = some x := ⟨_, List.getElem?_eq_getElem (by omega)⟩
  have hx' := zbv hx
  have hs : sR ((ins ++ outs) ++ (las.take (k + 1)).flatMap laT) = sR ((ins ++ outs) ++ (las.take k).flatMap laT) ++ [[.s x.name], [.s x.next]] := by
   rw [zdZ hx, ← List.append_assoc, zbC]
   rfl
  generalize (ins ++ outs) ++ (las.take k).flatMap laT = w at g2 hs hb
  repeat' first | apply zg | apply zj | refine zf rfl fun K E hK hE => ?_ | refine zG rfl (by kernel_rfl) fun K E hK hE => ?_ | ((first | refine za fun κ η => ?_ | refine zr (by kernel_rfl) fun κ η => ?_); simp only [go_sem, simprocAttr, hx', g1, g2]; (repeat refine ⟨by omega, ?_⟩); refine η _ ?_; clear η κ) | (refine zd (hK _ ?_); clear hE hK E K) | apply zb | (refine zH (hK _ ?_); clear hE hK E K) | apply zq | apply zi | apply zs
  exact ⟨las.length - (k + 1), by omega, k + 1, rfl, by omega, _, _, _, zp rfl ⟨rfl, rfl, rfl, trivial⟩ trivial, g1, by rw [hs]; rfl⟩
 ·simp only [decide_eq_false_iff_not] at hq
  rw [List.take_of_length_le (by omega)] at g2
  have hfa1 := hfa las.length
  rw [List.take_length] at hfa1
  repeat' first | apply zg | apply zj | refine zf rfl fun K E hK hE => ?_ | (refine za fun κ η => ?_; simp only [go_sem, simprocAttr, g1]; refine η _ ?_; clear η κ) | (refine zd (hK _ ?_); clear hE hK E K) | apply zb | apply zt | apply zu | apply zw | apply zx
  refine zW (fun m s' => ∃ k : Nat, m = gts.length - k ∧ k ≤ gts.length ∧ ∃ F G0 q, s' = nf 61 F G0 [(1, .ptr 1 1 0), (3, .row 9 q), (5, .t (.i .i64 k))] [] ∧ G0 1 = ⟨1, .cells 26 [.t (.sl (sR ins)), .t (.sl (sR outs)), .t (.sl (lsR las)), .t (.sl (gsR gts))]⟩ ∧ G0 9 = ⟨q, .row 9 1 (sR (((ins ++ outs) ++ las.flatMap laT) ++ (gts.take k).flatMap gtT))⟩) gts.length ?_ ?_
  ·exact ⟨0, by omega, by omega, _, _, _, zp rfl ⟨rfl, rfl, rfl, trivial⟩ trivial, g1, by rw [List.take_zero, List.flatMap_nil, List.append_nil]; exact g2⟩
  clear g1 g2 hb
  rintro m s' ⟨k, rfl, hk, F, G0, q, rfl, g1, g2⟩
  have hb : (((ins ++ outs) ++ las.flatMap laT) ++ (gts.take k).flatMap gtT).length ≤ 6000000 := by
   have := hfg k
   rw [List.length_append, List.length_append, List.length_append]; omega
  repeat' first | apply zg | refine zf rfl fun K E hK hE => ?_ | (refine za fun κ η => ?_; simp only [go_sem, simprocAttr, g1]; (repeat refine ⟨by omega, ?_⟩); refine η _ ?_; clear η κ) | (refine zd (hK _ ?_); clear hE hK E K) | apply zb
  refine zh _ rfl (fun hq => ?_) (fun hq => ?_)
  ·simp only [decide_eq_true_eq] at hq
   obtain ⟨x, hx⟩ : ∃ x, gts[k]? = some x := ⟨_, List.getElem?_eq_getElem (by omega)⟩
   have hx' := zaQ hx
   have hxl := hg x (List.mem_of_getElem? hx)
   have hs : sR (((ins ++ outs) ++ las.flatMap laT) ++ (gts.take (k + 1)).flatMap gtT) = sR (((ins ++ outs) ++ las.flatMap laT) ++ (gts.take k).flatMap gtT) ++ [[.s x.name]] ++ sR x.ins := by
    have e : sR (gtT x) = [[.s x.name]] ++ sR x.ins := rfl
    rw [zdZ hx, ← List.append_assoc, zbC, e, ← List.append_assoc]
   have hso := zbs x.ins
   generalize ((ins ++ outs) ++ las.flatMap laT) ++ (gts.take k).flatMap gtT = w at g2 hs hb
   repeat' first | apply zg | apply zj | refine zf rfl fun K E hK hE => ?_ | (refine za fun κ η => ?_; simp only [go_sem, simprocAttr, hx', g1, g2, eq_true hso, List.length_append, List.length_cons, List.length_nil]; (repeat refine ⟨by omega, ?_⟩); refine η _ ?_; clear η κ) | (refine zd (hK _ ?_); clear hE hK E K) | apply zb | apply zq | apply zi | apply zs
   exact ⟨gts.length - (k + 1), by omega, k + 1, rfl, by omega, _, _, _, zp rfl ⟨rfl, rfl, rfl, trivial⟩ trivial, g1, by rw [hs]; rfl⟩
  ·simp only [decide_eq_false_iff_not] at hq
   rw [List.take_of_length_le (by omega)] at g2
   have e : ((ins ++ outs) ++ las.flatMap laT) ++ gts.flatMap gtT = zar ⟨ins, outs, las, gts⟩ := by
    unfold zar
    simp only [List.append_assoc]
   rw [e] at g2
   have hz := zbs (zar ⟨ins, outs, las, gts⟩)
   repeat' first | apply zg | refine zf rfl fun K E hK hE => ?_ | (refine za fun κ η => ?_; simp only [go_sem, simprocAttr, g2]; refine η _ ?_; clear η κ) | (refine zd (hK _ ?_); clear hE hK E K) | apply zb | apply zt | apply zk | apply zu | apply zw | apply zx | (apply zm; apply zn; simp only [go_sem, simprocAttr, g2])
end Go.Proofs.YtbhoeanfnbkenaaGreatDoor
namespace Go.Proofs.YtbhoeanfnbkenaaGreatDoor
open Go.RowKit Go.WideMaps
set_option maxRecDepth 100000
set_option linter.unusedSimpArgs false
variable (Hy : World → Prop)
attribute [local irreducible] zU zY cwp z1 z6 lpQ z8 asQ bdQ bdY zab zac zad zaa
theorem zgf (l : List ByteArray) : (zaL l = none ∧ twS l = (zba, false)) ∨ ∃ s, zaL l = some (5, s) ∧ twS l = (s, true) := by
 unfold zaL twS
 cases zbu [] l with
 | none => exact .inl ⟨rfl, rfl⟩
 | some s => exact .inr ⟨s, rfl, rfl⟩
structure CSz (c : Ci) : Prop where
 told : ∀ s ∈ zar c, s.size ≤ 140737488355328
 rows : ∀ g ∈ c.gts, ∀ r ∈ g.rows, r.length ≤ 140737488355328
set_option maxHeartbeats 8000000 in
theorem zgg (c : Ci) (hr : CRoom c) (hsz : CSz c) : Ct Tryz.prog Hy 68 [.ag (cE c)] [.i .i64 (zai c).1, .s (zai c).2] := by
 have hbad : ∀ w, zay c = some w → zai c = w := fun w h => by rw [zai, h]; rfl
 have hok : zay c = none → zai c = (0, zba) := fun h => by rw [zai, h]; rfl
 have k1 := zjf Hy c hr
 simp only [cE] at k1
 cases hl : zaW c with
 | true =>
  have hw := hbad _ (by unfold zay za4; rw [if_pos hl]; rfl)
  rw [hw]
  rw [hl] at k1
  refine zI (cls := _root_.id) zB zD Tryz.func68 rfl (by decide) (Nat.le_of_ble_eq_true rfl) ?_
  rw [show Tryz.f68.ntmps = 120 from rfl, zC]
  simp only [List.zipIdx_cons, List.zipIdx_nil, List.map_cons, List.map_nil, Nat.reduceAdd, cE]
  repeat' first | apply zg | refine zf rfl fun K E hK hE => ?_ | (refine za fun κ η => ?_; simp only [go_sem, simprocAttr]; refine η _ ?_; clear η κ) | (refine zd (hK _ ?_); clear hE hK E K) | apply zb
  refine za fun κ η => ?_; simp only [go_sem, simprocAttr]; refine ⟨_, k1, ?_⟩; simp only [go_sem, simprocAttr]; refine η _ ?_; clear η κ
  repeat' first | apply zg | refine zf rfl fun K E hK hE => ?_ | (refine za fun κ η => ?_; simp only [go_sem, simprocAttr]; refine η _ ?_; clear η κ) | (refine zd (hK _ ?_); clear hE hK E K) | apply zb | refine zh true rfl (fun _ => ?_) (fun h => (by cases h)) | apply zk | apply zy | (apply zm; apply zn; simp only [go_sem, simprocAttr])
  rfl
 | false =>
 have n1 : za4 c = none := if_neg (by rw [hl]; decide)
 rw [hl] at k1
 obtain ⟨⟨f1, f2⟩, f3⟩ := zeP n1
 have hc : CFit c := ⟨by omega, by omega, by omega, by omega⟩
 have hg8 : ∀ g ∈ c.gts, g.ins.length ≤ 1000 := fun g h => by have := f3 g h; omega
 have k2 := zjh Hy c hc (by omega) hg8
 have k3 := zge Hy c hc
 have hnl := zb6 c
 have t1 := zi6 Hy (z2 c) (by omega)
 have t2 := zi6 Hy c.outs (by omega)
 have k4 := zjg Hy c hc (by omega) hg8
 have htl : (zar c).length ≤ 1000000 := by
  have a1 := zdy gtT 9 c.gts fun g h => by show g.ins.length + 1 ≤ 9; have := f3 g h; omega
  have a2 := zdy laT 2 c.las fun g h => by show 2 ≤ 2; omega
  unfold zar
  rw [List.length_append, List.length_append, List.length_append]
  omega
 have hul : (zbg c).length ≤ 1000000 := by
  have a1 := zdy (·.ins) 8 c.gts fun g h => (f3 g h).1
  unfold zbg
  rw [List.length_append, List.length_append, List.length_map]
  omega
 have tz := hsz.told
 have rz := hsz.rows
 have f3g := fun g h => (f3 g h).1
 have f3r := fun g h => (f3 g h).2
 clear hsz hr hg8 f3
 obtain ⟨R, e⟩ : ∃ R, R = zai c := ⟨_, rfl⟩
 have e0 : zay c = (zao (zar c)).or ((zaL (z2 c)).or ((zaL c.outs).or ((zcm c).or (zcD c)))) := by unfold zay; rw [n1]; rfl
 unfold zcm zcD zao at e0
 rw [← e] at hbad hok ⊢
 clear e n1 hl
 simp only [cE] at k2 k3 k4
 generalize zar c = told at *
 generalize z2 c = nets at *
 generalize zbg c = used at *
 generalize zay c = W at *
 obtain ⟨ins, outs, las, gts⟩ := c
 obtain ⟨h1, h2, h3, h4⟩ := hc
 simp only at *
 refine zI (cls := _root_.id) zB zD Tryz.func68 rfl (by decide) (Nat.le_of_ble_eq_true rfl) ?_
 rw [show Tryz.f68.ntmps = 120 from rfl, zC]
 simp only [List.zipIdx_cons, List.zipIdx_nil, List.map_cons, List.map_nil, Nat.reduceAdd, cE]
 repeat' first | apply zg | refine zf rfl fun K E hK hE => ?_ | (refine za fun κ η => ?_; simp only [go_sem, simprocAttr]; refine η _ ?_; clear η κ) | (refine zd (hK _ ?_); clear hE hK E K) | apply zb
 refine za fun κ η => ?_; simp only [go_sem, simprocAttr]; refine ⟨_, k1, ?_⟩; simp only [go_sem, simprocAttr]; refine η _ ?_; clear η κ
 repeat' first | apply zg | refine zf rfl fun K E hK hE => ?_ | (refine za fun κ η => ?_; simp only [go_sem, simprocAttr]; refine η _ ?_; clear η κ) | (refine zd (hK _ ?_); clear hE hK E K) | apply zb | refine zh false rfl (fun h => (by cases h)) fun _ => ?_ | apply zi
 refine za fun κ η => ?_; simp only [go_sem, simprocAttr]; refine ⟨_, k2, ?_⟩; simp only [go_sem, simprocAttr]; refine η _ ?_; clear η κ
 repeat' first | apply zg | apply zj | refine zf rfl fun K E hK hE => ?_ | (refine za fun κ η => ?_; simp only [go_sem, simprocAttr]; refine η _ ?_; clear η κ) | (refine zd (hK _ ?_); clear hE hK E K) | apply zb
 refine zW (fun m s' => ∃ k : Nat, m = told.length - k ∧ k ≤ told.length ∧ (∀ (j : Nat) y, j < k → told[j]? = some y → (!zaV y) = false) ∧ ∃ F G0, s' = nf 120 F G0 [(1, .ptr 1 1 0), (4, .t (.sl (sR told))), (5, .t (.i .i64 k))] [(1, ⟨1, .cells 26 [.t (.sl (sR ins)), .t (.sl (sR outs)), .t (.sl (lsR las)), .t (.sl (gsR gts))]⟩)]) (told.length) ?_ ?_
 ·exact ⟨0, by omega, by omega, fun j c hj => absurd hj (Nat.not_lt_zero j), _, _, zp rfl ⟨rfl, rfl, rfl, trivial⟩ ⟨rfl, trivial⟩⟩
 rintro m s' ⟨k, rfl, hk, hno, F, G0, rfl⟩
 repeat' first | apply zg | refine zf rfl fun K E hK hE => ?_ | (refine za fun κ η => ?_; simp only [go_sem, simprocAttr]; refine η _ ?_; clear η κ) | (refine zd (hK _ ?_); clear hE hK E K) | apply zb
 refine zh _ rfl (fun hq => ?_) (fun hq => ?_)
 ·simp only [decide_eq_true_eq] at hq
  obtain ⟨x, hx⟩ : ∃ x, told[k]? = some x := ⟨_, List.getElem?_eq_getElem (by omega)⟩
  have hx' := za5 hx
  have hnm := znk Hy x (tz x (List.mem_of_getElem? hx))
  repeat' first | apply zg | apply zj | refine zf rfl fun K E hK hE => ?_ | (refine za fun κ η => ?_; simp only [go_sem, simprocAttr, hx']; (repeat refine ⟨by omega, ?_⟩); refine η _ ?_; clear η κ) | apply zb | apply zi
  refine za fun κ η => ?_; simp only [go_sem, simprocAttr]; refine ⟨_, hnm, ?_⟩; simp only [go_sem, simprocAttr]; refine η _ ?_; clear η κ
  cases hb : zaV x with
  | true =>
   repeat' first | refine zf rfl fun K E hK hE => ?_ | (refine za fun κ η => ?_; simp only [go_sem, simprocAttr]; (repeat refine ⟨by omega, ?_⟩); refine η _ ?_; clear η κ) | (refine zd (hK _ ?_); clear hE hK E K) | apply zb | refine zh false rfl (fun h => (by cases h)) fun _ => ?_ | apply zq | apply zi | apply zs
   refine ⟨told.length - (k + 1), by omega, k + 1, rfl, by omega, fun j y hj hy => ?_, _, _, zp rfl ⟨rfl, rfl, rfl, trivial⟩ ⟨rfl, trivial⟩⟩
   rcases Nat.lt_or_eq_of_le (Nat.lt_succ_iff.1 hj) with h | rfl
   ·exact hno j y h hy
   ·rw [hx] at hy; cases hy; rw [hb]; rfl
  | false =>
   rw [zck hx (by rw [hb]; rfl) hno] at e0
   have hR := hbad (4, x) e0
   subst hR
   repeat' first | apply zg | refine zG rfl (by kernel_rfl) fun K E hK hE => ?_ | ((first | refine za fun κ η => ?_ | refine zr (by kernel_rfl) fun κ η => ?_); simp only [go_sem, simprocAttr, hx']; (repeat refine ⟨by omega, ?_⟩); refine η _ ?_; clear η κ) | (refine zd (hK _ ?_); clear hE hK E K) | apply zb | refine zh true rfl (fun _ => ?_) (fun h => (by cases h)) | (refine zH (hK _ ?_); clear hE hK E K) | apply zk | apply zy | apply zJ | apply zL | (apply zm; apply zn; simp only [go_sem, simprocAttr, hx'])
 simp only [decide_eq_false_iff_not] at hq
 rw [zcl fun j y hj => hno j y (by omega), Option.map_none, Option.none_or] at e0
 clear hno hq hk
 repeat' first | apply zg | refine zf rfl fun K E hK hE => ?_ | (refine za fun κ η => ?_; simp only [go_sem, simprocAttr]; refine η _ ?_; clear η κ) | apply zb | apply zt | apply zu | apply zw | apply zx
 refine za fun κ η => ?_; simp only [go_sem, simprocAttr]; refine ⟨_, k3, ?_⟩; simp only [go_sem, simprocAttr]; refine η _ ?_; clear η κ
 repeat' first | apply zg | refine zf rfl fun K E hK hE => ?_ | (refine za fun κ η => ?_; simp only [go_sem, simprocAttr]; refine η _ ?_; clear η κ) | (refine zd (hK _ ?_); clear hE hK E K) | apply zb
 refine za fun κ η => ?_; simp only [go_sem, simprocAttr]; refine ⟨_, t1, ?_⟩; simp only [go_sem, simprocAttr]; refine η _ ?_; clear η κ
 rcases zgf nets with ⟨n3, n4⟩ | ⟨s, n3, n4⟩
 rotate_left
 ·rw [n3] at e0
  have hR := hbad (5, s) e0
  subst hR
  rw [n4]
  repeat' first | apply zg | refine zf rfl fun K E hK hE => ?_ | (refine za fun κ η => ?_; simp only [go_sem, simprocAttr]; refine η _ ?_; clear η κ) | (refine zd (hK _ ?_); clear hE hK E K) | apply zb | refine zh true rfl (fun _ => ?_) (fun h => (by cases h)) | apply zk | apply zy | (apply zm; apply zn; simp only [go_sem, simprocAttr])
 rw [n3, Option.none_or] at e0
 rw [n4]
 repeat' first | apply zg | refine zf rfl fun K E hK hE => ?_ | (refine za fun κ η => ?_; simp only [go_sem, simprocAttr]; (repeat refine ⟨by omega, ?_⟩); refine η _ ?_; clear η κ) | (refine zd (hK _ ?_); clear hE hK E K) | apply zb | refine zh false rfl (fun h => (by cases h)) fun _ => ?_ | apply zi
 refine za fun κ η => ?_; simp only [go_sem, simprocAttr]; refine ⟨_, t2, ?_⟩; simp only [go_sem, simprocAttr]; refine η _ ?_; clear η κ
 rcases zgf outs with ⟨m3, m4⟩ | ⟨s, m3, m4⟩
 rotate_left
 ·rw [m3] at e0
  have hR := hbad (5, s) e0
  subst hR
  rw [m4]
  repeat' first | apply zg | refine zf rfl fun K E hK hE => ?_ | (refine za fun κ η => ?_; simp only [go_sem, simprocAttr]; refine η _ ?_; clear η κ) | (refine zd (hK _ ?_); clear hE hK E K) | apply zb | refine zh true rfl (fun _ => ?_) (fun h => (by cases h)) | apply zk | apply zy | (apply zm; apply zn; simp only [go_sem, simprocAttr])
 rw [m3, Option.none_or] at e0
 rw [m4]
 repeat' first | apply zg | apply zj | refine zf rfl fun K E hK hE => ?_ | (refine za fun κ η => ?_; simp only [go_sem, simprocAttr]; refine η _ ?_; clear η κ) | (refine zd (hK _ ?_); clear hE hK E K) | apply zb | refine zh false rfl (fun h => (by cases h)) fun _ => ?_ | apply zi
 refine zW (fun m s' => ∃ k : Nat, m = las.length - k ∧ k ≤ las.length ∧ (∀ (j : Nat) y, j < k → las[j]? = some y → (!zb5 y) = false) ∧ ∃ F G0, s' = nf 120 F G0 [(1, .ptr 1 1 0), (6, .t (.sl (sR nets))), (11, .t (.i .i64 k))] [(1, ⟨1, .cells 26 [.t (.sl (sR ins)), .t (.sl (sR outs)), .t (.sl (lsR las)), .t (.sl (gsR gts))]⟩)]) (las.length) ?_ ?_
 ·exact ⟨0, by omega, by omega, fun j c hj => absurd hj (Nat.not_lt_zero j), _, _, zp rfl ⟨rfl, rfl, rfl, trivial⟩ ⟨rfl, trivial⟩⟩
 rintro m s' ⟨k, rfl, hk, hno, F, G0, rfl⟩
 repeat' first | apply zg | refine zf rfl fun K E hK hE => ?_ | (refine za fun κ η => ?_; simp only [go_sem, simprocAttr]; (repeat refine ⟨by omega, ?_⟩); refine η _ ?_; clear η κ) | (refine zd (hK _ ?_); clear hE hK E K) | apply zb
 refine zh _ rfl (fun hq => ?_) (fun hq => ?_)
 ·simp only [decide_eq_true_eq] at hq
  obtain ⟨x, hx⟩ : ∃ x, las[k]? = some x := ⟨_, List.getElem?_eq_getElem (by omega)⟩
  have hx' := zbv hx
  have hb0 : zb5 x = false → R = (1, x.name) := fun h => hbad (1, x.name) (by rw [e0, zck hx (by rw [h]; rfl) hno]; rfl)
  by_cases d1 : x.init < 0
  ·have hR := hb0 (by rw [zb5, decide_eq_false (by omega)]; rfl)
   subst hR
   repeat' first | apply zg | apply zj | refine zf rfl fun K E hK hE => ?_ | refine zG rfl (by kernel_rfl) fun K E hK hE => ?_ | ((first | refine za fun κ η => ?_ | refine zo rfl fun κ η => ?_ | refine zr (by kernel_rfl) fun κ η => ?_); simp only [go_sem, simprocAttr, hx', eq_true d1]; (repeat refine ⟨by omega, ?_⟩); refine η _ ?_; clear η κ) | (refine zd (hK _ ?_); clear hE hK E K) | apply zb | refine zh true rfl (fun _ => ?_) (fun h => (by cases h)) | (refine zH (hK _ ?_); clear hE hK E K) | apply zi | apply zk | apply zy | apply zJ | apply zL | (apply zm; apply zn; simp only [go_sem, simprocAttr, hx', eq_true d1])
  by_cases d2 : 2 < x.init
  ·have hR := hb0 (by rw [zb5, decide_eq_false (show ¬ x.init ≤ 2 by omega), Bool.and_false])
   subst hR
   repeat' first | apply zg | apply zj | refine zf rfl fun K E hK hE => ?_ | refine zG rfl (by kernel_rfl) fun K E hK hE => ?_ | ((first | refine za fun κ η => ?_ | refine zo rfl fun κ η => ?_ | refine zr (by kernel_rfl) fun κ η => ?_); simp only [go_sem, simprocAttr, hx', eq_false d1, eq_true d2]; (repeat refine ⟨by omega, ?_⟩); refine η _ ?_; clear η κ) | (refine zd (hK _ ?_); clear hE hK E K) | apply zb | refine zh true rfl (fun _ => ?_) (fun h => (by cases h)) | (refine zH (hK _ ?_); clear hE hK E K) | apply zi | apply zk | apply zy | apply zJ | apply zL | (apply zm; apply zn; simp only [go_sem, simprocAttr, hx', eq_false d1, eq_true d2])
  ·repeat' first | apply zg | apply zj | refine zf rfl fun K E hK hE => ?_ | ((first | refine za fun κ η => ?_ | refine zo rfl fun κ η => ?_); simp only [go_sem, simprocAttr, hx', eq_false d1, eq_false d2]; (repeat refine ⟨by omega, ?_⟩); refine η _ ?_; clear η κ) | (refine zd (hK _ ?_); clear hE hK E K) | apply zb | refine zh false rfl (fun h => (by cases h)) fun _ => ?_ | apply zq | apply zi | apply zs
   refine ⟨las.length - (k + 1), by omega, k + 1, rfl, by omega, fun j y hj hy => ?_, _, _, zp rfl ⟨rfl, rfl, rfl, trivial⟩ ⟨rfl, trivial⟩⟩
   rcases Nat.lt_or_eq_of_le (Nat.lt_succ_iff.1 hj) with h | rfl
   ·exact hno j y h hy
   ·rw [hx] at hy; cases hy
    rw [zb5, decide_eq_true (by omega), decide_eq_true (by omega)]
    rfl
 simp only [decide_eq_false_iff_not] at hq
 rw [zcl fun j y hj => hno j y (by omega), Option.map_none, Option.none_or] at e0
 clear hno hq hk
 repeat' first | apply zg | apply zj | refine zf rfl fun K E hK hE => ?_ | (refine za fun κ η => ?_; simp only [go_sem, simprocAttr]; refine η _ ?_; clear η κ) | (refine zd (hK _ ?_); clear hE hK E K) | apply zb | apply zt | apply zu | apply zw | apply zx
 refine zW (fun m s' => ∃ k : Nat, m = gts.length - k ∧ k ≤ gts.length ∧ (∀ (j : Nat) y, j < k → gts[j]? = some y → (!zaM y) = false) ∧ ∃ F G0, s' = nf 120 F G0 [(1, .ptr 1 1 0), (6, .t (.sl (sR nets))), (12, .t (.i .i64 k))] [(1, ⟨1, .cells 26 [.t (.sl (sR ins)), .t (.sl (sR outs)), .t (.sl (lsR las)), .t (.sl (gsR gts))]⟩)]) (gts.length) ?_ ?_
 ·exact ⟨0, by omega, by omega, fun j c hj => absurd hj (Nat.not_lt_zero j), _, _, zp rfl ⟨rfl, rfl, rfl, trivial⟩ ⟨rfl, trivial⟩⟩
 rintro m s' ⟨k, rfl, hk, hno, F, G0, rfl⟩
 repeat' first | apply zg | refine zf rfl fun K E hK hE => ?_ | (refine za fun κ η => ?_; simp only [go_sem, simprocAttr]; (repeat refine ⟨by omega, ?_⟩); refine η _ ?_; clear η κ) | (refine zd (hK _ ?_); clear hE hK E K) | apply zb
 refine zh _ rfl (fun hq => ?_) (fun hq => ?_)
 ·simp only [decide_eq_true_eq] at hq
  obtain ⟨x, hx⟩ : ∃ x, gts[k]? = some x := ⟨_, List.getElem?_eq_getElem (by omega)⟩
  have hxm := List.mem_of_getElem? hx
  have hx' := zaQ hx
  have hng := zi5 Hy x (by have := f3g x hxm; omega) (by have := f3r x hxm; omega) (rz x hxm)
  repeat' first | apply zg | apply zj | refine zf rfl fun K E hK hE => ?_ | (refine za fun κ η => ?_; simp only [go_sem, simprocAttr, hx']; (repeat refine ⟨by omega, ?_⟩); refine η _ ?_; clear η κ) | apply zb | apply zi
  refine za fun κ η => ?_; simp only [go_sem, simprocAttr]; refine ⟨_, hng, ?_⟩; simp only [go_sem, simprocAttr]; refine η _ ?_; clear η κ
  cases hb : zaM x with
  | true =>
   repeat' first | refine zf rfl fun K E hK hE => ?_ | (refine za fun κ η => ?_; simp only [go_sem, simprocAttr]; (repeat refine ⟨by omega, ?_⟩); refine η _ ?_; clear η κ) | (refine zd (hK _ ?_); clear hE hK E K) | apply zb | refine zh false rfl (fun h => (by cases h)) fun _ => ?_ | apply zq | apply zi | apply zs
   refine ⟨gts.length - (k + 1), by omega, k + 1, rfl, by omega, fun j y hj hy => ?_, _, _, zp rfl ⟨rfl, rfl, rfl, trivial⟩ ⟨rfl, trivial⟩⟩
   rcases Nat.lt_or_eq_of_le (Nat.lt_succ_iff.1 hj) with h | rfl
   ·exact hno j y h hy
   ·rw [hx] at hy; cases hy; rw [hb]; rfl
  | false =>
   have hR := hbad (1, x.name) (by rw [e0, zck hx (by rw [hb]; rfl) hno]; rfl)
   subst hR
   repeat' first | apply zg | refine zG rfl (by kernel_rfl) fun K E hK hE => ?_ | ((first | refine za fun κ η => ?_ | refine zr (by kernel_rfl) fun κ η => ?_); simp only [go_sem, simprocAttr, hx']; (repeat refine ⟨by omega, ?_⟩); refine η _ ?_; clear η κ) | (refine zd (hK _ ?_); clear hE hK E K) | apply zb | refine zh true rfl (fun _ => ?_) (fun h => (by cases h)) | (refine zH (hK _ ?_); clear hE hK E K) | apply zk | apply zy | apply zJ | apply zL | (apply zm; apply zn; simp only [go_sem, simprocAttr, hx'])
 simp only [decide_eq_false_iff_not] at hq
 rw [zcl fun j y hj => hno j y (by omega), Option.map_none, Option.none_or] at e0
 clear hno hq hk
 repeat' first | apply zg | refine zf rfl fun K E hK hE => ?_ | (refine za fun κ η => ?_; simp only [go_sem, simprocAttr]; refine η _ ?_; clear η κ) | apply zb | apply zt | apply zu | apply zw | apply zx
 refine za fun κ η => ?_; simp only [go_sem, simprocAttr]; refine ⟨_, k4, ?_⟩; simp only [go_sem, simprocAttr]; refine η _ ?_; clear η κ
 repeat' first | apply zg | apply zj | refine zf rfl fun K E hK hE => ?_ | (refine za fun κ η => ?_; simp only [go_sem, simprocAttr]; refine η _ ?_; clear η κ) | (refine zd (hK _ ?_); clear hE hK E K) | apply zb
 refine zW (fun m s' => ∃ k : Nat, m = used.length - k ∧ k ≤ used.length ∧ (∀ (j : Nat) y, j < k → used[j]? = some y → (!decide (y ∈ nets)) = false) ∧ ∃ F G0, s' = nf 120 F G0 [(6, .t (.sl (sR nets))), (13, .t (.sl (sR used))), (14, .t (.i .i64 k))] []) (used.length) ?_ ?_
 ·exact ⟨0, by omega, by omega, fun j c hj => absurd hj (Nat.not_lt_zero j), _, _, zp rfl ⟨rfl, rfl, rfl, trivial⟩ trivial⟩
 rintro m s' ⟨k, rfl, hk, hno, F, G0, rfl⟩
 repeat' first | apply zg | refine zf rfl fun K E hK hE => ?_ | (refine za fun κ η => ?_; simp only [go_sem, simprocAttr]; refine η _ ?_; clear η κ) | (refine zd (hK _ ?_); clear hE hK E K) | apply zb
 refine zh _ rfl (fun hq => ?_) (fun hq => ?_)
 ·simp only [decide_eq_true_eq] at hq
  obtain ⟨x, hx⟩ : ∃ x, used[k]? = some x := ⟨_, List.getElem?_eq_getElem (by omega)⟩
  have hx' := za5 hx
  have hh := zgm Hy nets x (by omega)
  repeat' first | apply zg | apply zj | refine zf rfl fun K E hK hE => ?_ | (refine za fun κ η => ?_; simp only [go_sem, simprocAttr, hx']; (repeat refine ⟨by omega, ?_⟩); refine η _ ?_; clear η κ) | apply zb | apply zi
  refine za fun κ η => ?_; simp only [go_sem, simprocAttr]; refine ⟨_, hh, ?_⟩; simp only [go_sem, simprocAttr]; refine η _ ?_; clear η κ
  by_cases hm : x ∈ nets
  ·repeat' first | refine zf rfl fun K E hK hE => ?_ | (refine za fun κ η => ?_; simp only [go_sem, simprocAttr, eq_true hm, decide_true]; (repeat refine ⟨by omega, ?_⟩); refine η _ ?_; clear η κ) | (refine zd (hK _ ?_); clear hE hK E K) | apply zb | refine zh false rfl (fun h => (by cases h)) fun _ => ?_ | apply zq | apply zi | apply zs
   refine ⟨used.length - (k + 1), by omega, k + 1, rfl, by omega, fun j y hj hy => ?_, _, _, zp rfl ⟨rfl, rfl, rfl, trivial⟩ trivial⟩
   rcases Nat.lt_or_eq_of_le (Nat.lt_succ_iff.1 hj) with h | rfl
   ·exact hno j y h hy
   ·rw [hx] at hy; cases hy; rw [decide_eq_true hm]; rfl
  ·have hR := hbad (6, x) (by rw [e0, zck hx (by rw [decide_eq_false hm]; rfl) hno]; rfl)
   subst hR
   repeat' first | apply zg | refine zG rfl (by kernel_rfl) fun K E hK hE => ?_ | ((first | refine za fun κ η => ?_ | refine zr (by kernel_rfl) fun κ η => ?_); simp only [go_sem, simprocAttr, hx', eq_false hm, decide_false]; (repeat refine ⟨by omega, ?_⟩); refine η _ ?_; clear η κ) | (refine zd (hK _ ?_); clear hE hK E K) | apply zb | refine zh true rfl (fun _ => ?_) (fun h => (by cases h)) | (refine zH (hK _ ?_); clear hE hK E K) | apply zk | apply zy | apply zJ | apply zL | (apply zm; apply zn; simp only [go_sem, simprocAttr, hx', eq_false hm, decide_false])
 ·simp only [decide_eq_false_iff_not] at hq
  have hR := hok (by rw [e0, zcl fun j y hj => hno j y (by omega)]; rfl)
  subst hR
  repeat' first | apply zg | refine zf rfl fun K E hK hE => ?_ | (refine za fun κ η => ?_; simp only [go_sem, simprocAttr]; refine η _ ?_; clear η κ) | (refine zd (hK _ ?_); clear hE hK E K) | apply zb | apply zt | apply zk | apply zu | apply zw | apply zx | (apply zm; apply zn; simp only [go_sem, simprocAttr])
  rfl
end Go.Proofs.YtbhoeanfnbkenaaGreatDoor
