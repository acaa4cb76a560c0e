import Derived.Test.YtbhoeanfnbkenaaGreatDoorR2
namespace Go.Proofs.YtbhoeanfnbkenaaGreatDoor
open Go.RowKit Go.WideMaps
set_option maxRecDepth 100000
set_option linter.unusedSimpArgs false
variable (Hy : World → Prop)
attribute [local irreducible] zU zY cwp z1 z6 lpQ z8 asQ bdQ bdY zab zac zad zaa
def zb5 (l : La) : Bool := decide (0 ≤ l.init) && decide (l.init ≤ 2)
def zcm (c : Ci) : Wr := ((c.las.find? fun l => !zb5 l).map fun l => (1, l.name)).or ((c.gts.find? fun g => !zaM g).map fun g => (1, g.name))
def LOk (l : List La) : Prop := ∀ x ∈ l, inR .i64 x.init
def GOk (l : List Gt) : Prop := ∀ g ∈ l, inR .i64 g.op
set_option maxHeartbeats 4000000 in
theorem zmW (c : Ci) (hc : CFit c) (hg : zfR c.gts) (hgo : GOk c.gts) (hlo : LOk c.las) (o : Nat → O) : Ck Hy 81 [.ag (cA c)] o (zcm c) := by
 obtain ⟨ins, outs, las, gts⟩ := c
 obtain ⟨h1, h2, h3, h4⟩ := hc
 simp only at h1 h2 h3 h4 hg hgo hlo
 obtain ⟨R, e⟩ : ∃ R, R = zcm ⟨ins, outs, las, gts⟩ := ⟨_, rfl⟩
 rw [← e]
 unfold zcm at e
 simp only at e
 refine zca (cls := fun d => 7500 + d) zB zD Tryz.func81 rfl (by decide) (Nat.le_of_ble_eq_true rfl) ?_
 rw [show Tryz.f81.ntmps = 41 from rfl, zC]
 simp only [List.zipIdx_cons, List.zipIdx_nil, List.map_cons, List.map_nil, Nat.reduceAdd, cA]
 repeat' first | apply zg | apply zj | refine zf rfl fun K E hK hE => ?_ | (refine za fun κ η => ?_; simp only [go_sem, simprocAttr]; (repeat refine ⟨by omega, ?_⟩); refine η _ ?_; clear η κ) | (refine zd (hK _ ?_); clear hE hK E K) | apply zb
 refine zW (fun m s' => ∃ k : Nat, m = las.length - k ∧ k ≤ las.length ∧ (∀ (j : Nat) y, j < k → las[j]? = some y → (!zb5 y) = false) ∧ ∃ F G0 q, s' = nf 41 F G0 [(1, .ptr 7501 q 0), (7, .t (.sl (lsR las))), (8, .t (.i .i64 las.length)), (9, .t (.i .i64 k))] [] ∧ G0 7501 = ⟨q, .cells 26 [.t (.sl (sR ins)), .t (.sl (sR outs)), .t (.sl (lsR las)), .t (.sl (gsR gts))]⟩ ∧ Lo o G0) las.length ?_ ?_
 ·exact ⟨0, by omega, by omega, fun j x hj => absurd hj (Nat.not_lt_zero j), _, _, _, zp rfl ⟨rfl, rfl, rfl, rfl, trivial⟩ trivial, rfl, zak rfl⟩
 rintro m s' ⟨k, rfl, hk, hno, F, G0, q, rfl, g1, l1⟩
 repeat' first | apply zg | refine zf rfl fun K E hK hE => ?_ | (refine za fun κ η => ?_; simp only [go_sem, simprocAttr]; refine η _ ?_; clear η κ) | (refine zd (hK _ ?_); clear hE hK E K) | apply zb
 refine zh _ rfl (fun hq => ?_) (fun hq => ?_)
 ·simp only [decide_eq_true_eq] at hq
  obtain ⟨x, hx⟩ : ∃ x, las[k]? = some x := ⟨_, List.getElem?_eq_getElem (by omega)⟩
  have hx' := zbv hx
  have hbad : zb5 x = false → R = some (1, x.name) := fun h => by
   rw [e, zck hx (by rw [h]; rfl) hno]
   rfl
  by_cases d1 : x.init < 0
  ·repeat' first | apply zg | apply zj | refine zf rfl fun K E hK hE => ?_ | ((first | refine za fun κ η => ?_ | refine zo rfl fun κ η => ?_); simp only [go_sem, simprocAttr, hx', eq_true d1]; (repeat refine ⟨by omega, ?_⟩); refine η _ ?_; clear η κ) | (refine zd (hK _ ?_); clear hE hK E K) | apply zb | refine zh true rfl (fun _ => ?_) (fun h => (by cases h)) | apply zi
   refine zbR ?_; simp only [go_sem, simprocAttr]; refine hE.2.2 _ ?_
   repeat' first | apply zM | apply zN | apply zO
   exact zbj ⟨⟨_, hbad (by rw [zb5, decide_eq_false (by omega)]; rfl), rfl⟩, l1.trans (zak rfl)⟩
  by_cases d2 : 2 < x.init
  ·repeat' first | apply zg | apply zj | refine zf rfl fun K E hK hE => ?_ | ((first | refine za fun κ η => ?_ | refine zo rfl fun κ η => ?_); simp only [go_sem, simprocAttr, hx', eq_false d1, eq_true d2]; (repeat refine ⟨by omega, ?_⟩); refine η _ ?_; clear η κ) | (refine zd (hK _ ?_); clear hE hK E K) | apply zb | refine zh true rfl (fun _ => ?_) (fun h => (by cases h)) | apply zi
   refine zbR ?_; simp only [go_sem, simprocAttr]; refine hE.2.2 _ ?_
   repeat' first | apply zM | apply zN | apply zO
   exact zbj ⟨⟨_, hbad (by rw [zb5, decide_eq_false (show ¬ x.init ≤ 2 by omega), Bool.and_false]), rfl⟩, l1.trans (zak rfl)⟩
  ·repeat' first | apply zg | apply zj | refine zf rfl fun K E hK hE => ?_ | ((first | refine za fun κ η => ?_ | refine zo rfl fun κ η => ?_); simp only [go_sem, simprocAttr, hx', eq_false d1, eq_false d2]; (repeat refine ⟨by omega, ?_⟩); refine η _ ?_; clear η κ) | (refine zd (hK _ ?_); clear hE hK E K) | apply zb | refine zh false rfl (fun h => (by cases h)) fun _ => ?_ | apply zq | apply zi | apply zs
   refine ⟨las.length - (k + 1), by omega, k + 1, rfl, by omega, fun j y hj hy => ?_, _, _, _, zp rfl ⟨rfl, rfl, rfl, rfl, trivial⟩ trivial, g1, l1.trans (zak rfl)⟩
   rcases Nat.lt_or_eq_of_le (Nat.lt_succ_iff.1 hj) with h | rfl
   ·exact hno j y h hy
   ·rw [hx] at hy; cases hy
    rw [zb5, decide_eq_true (by omega), decide_eq_true (by omega)]
    rfl
 simp only [decide_eq_false_iff_not] at hq
 rw [zcl fun j y hj => hno j y (by omega)] at e
 have e : R = (gts.find? fun g => !zaM g).map fun g => (1, g.name) := e
 clear hno hq hk
 repeat' first | apply zg | apply zj | refine zf rfl fun K E hK hE => ?_ | (refine za fun κ η => ?_; simp only [go_sem, simprocAttr, g1]; (repeat refine ⟨by omega, ?_⟩); refine η _ ?_; clear η κ) | (refine zd (hK _ ?_); clear hE hK E K) | apply zb | apply zt | apply zu | apply zw | apply zx
 refine zW (fun m s' => ∃ k : Nat, m = gts.length - k ∧ k ≤ gts.length ∧ (∀ (j : Nat) y, j < k → gts[j]? = some y → (!zaM y) = false) ∧ ∃ F G0, s' = nf 41 F G0 [(27, .t (.sl (gsR gts))), (28, .t (.i .i64 gts.length)), (29, .t (.i .i64 k))] [] ∧ Lo o G0) gts.length ?_ ?_
 ·exact ⟨0, by omega, by omega, fun j x hj => absurd hj (Nat.not_lt_zero j), _, _, zp rfl ⟨rfl, rfl, rfl, trivial⟩ trivial, l1.trans (zak rfl)⟩
 clear l1 g1
 rintro m s' ⟨k, rfl, hk, hno, F, G0, rfl, l1⟩
 repeat' first | apply zg | refine zf rfl fun K E hK hE => ?_ | (refine za fun κ η => ?_; simp only [go_sem, simprocAttr]; refine η _ ?_; clear η κ) | (refine zd (hK _ ?_); clear hE hK E K) | apply zb
 refine zh _ rfl (fun hq => ?_) (fun hq => ?_)
 ·simp only [decide_eq_true_eq] at hq
  obtain ⟨x, hx⟩ : ∃ x, gts[k]? = some x := ⟨_, List.getElem?_eq_getElem (by omega)⟩
  have hxm := List.mem_of_getElem? hx
  have hx' := zaQ hx
  have hng : Ct Tryz.prog Hy 36 [.ag [.s x.name, .i .i64 x.op, .sl (sR x.ins), .sl (rR x.rows), .b x.off]] [.b (zaM x)] := zhW Hy x (hgo x hxm) (hg x hxm).1 (hg x hxm).2
  repeat' first | apply zg | apply zj | refine zf rfl fun K E hK hE => ?_ | (refine za fun κ η => ?_; simp only [go_sem, simprocAttr, hx']; (repeat refine ⟨by omega, ?_⟩); refine η _ ?_; clear η κ) | (refine zd (hK _ ?_); clear hE hK E K) | apply zb | apply zi
  refine za fun κ η => ?_; simp only [go_sem, simprocAttr]; refine ⟨_, hng, ?_⟩; simp only [go_sem, simprocAttr]; refine η _ ?_; clear η κ
  cases hb : zaM x with
  | true =>
   repeat' first | refine zf rfl fun K E hK hE => ?_ | (refine za fun κ η => ?_; simp only [go_sem, simprocAttr]; (repeat refine ⟨by omega, ?_⟩); refine η _ ?_; clear η κ) | (refine zd (hK _ ?_); clear hE hK E K) | apply zb | refine zh false rfl (fun h => (by cases h)) fun _ => ?_ | apply zq | apply zi | apply zs
   refine ⟨gts.length - (k + 1), by omega, k + 1, rfl, by omega, fun j y hj hy => ?_, _, _, zp rfl ⟨rfl, rfl, rfl, trivial⟩ trivial, l1.trans (zak rfl)⟩
   rcases Nat.lt_or_eq_of_le (Nat.lt_succ_iff.1 hj) with h | rfl
   ·exact hno j y h hy
   ·rw [hx] at hy; cases hy
    rw [hb]
    rfl
  | false =>
   repeat' first | refine zf rfl fun K E hK hE => ?_ | (refine za fun κ η => ?_; simp only [go_sem, simprocAttr]; (repeat refine ⟨by omega, ?_⟩); refine η _ ?_; clear η κ) | (refine zd (hK _ ?_); clear hE hK E K) | apply zb | refine zh true rfl (fun _ => ?_) (fun h => (by cases h))
   refine zbR ?_; simp only [go_sem, simprocAttr]; refine hE.2.2 _ ?_
   repeat' first | apply zM | apply zN | apply zO
   exact zbj ⟨⟨(1, x.name), by rw [e, zck hx (by rw [hb]; rfl) hno]; rfl, rfl⟩, l1.trans (zak rfl)⟩
 ·simp only [decide_eq_false_iff_not] at hq
  repeat' first | apply zt | apply zu | apply zw | apply zx
  exact zcO ⟨rfl, by rw [e, zcl fun j y hj => hno j y (by omega)]; rfl, l1⟩
def zbg (c : Ci) : List ByteArray := c.outs ++ (c.las.map (·.next) ++ c.gts.flatMap (·.ins))
def zcD (c : Ci) : Wr := ((zbg c).find? fun s => !decide (s ∈ z2 c)).map fun s => (6, s)
theorem ziP {l : List Gt} {k : Nat} {x : Gt} (pre : List ByteArray) (h : l[k]? = some x) : sR (pre ++ (l.take (k + 1)).flatMap (·.ins)) = sR (pre ++ (l.take k).flatMap (·.ins)) ++ sR x.ins := by
 rw [zdZ h, ← List.append_assoc, zbC]
theorem zmX (l : List Gt) (hl : l.length ≤ 1000) (hg : ∀ g ∈ l, g.ins.length ≤ 1000) (k : Nat) : ((l.take k).flatMap (·.ins)).length ≤ 1000000 := by
 have key : ∀ m : List Gt, (∀ g ∈ m, g.ins.length ≤ 1000) → (m.flatMap (·.ins)).length ≤ m.length * 1000 := fun m => by
  induction m with
  | nil => intro _; simp
  | cons g m ih =>
   intro h
   have h1 := ih fun x hx => h x (List.mem_cons_of_mem _ hx)
   have h2 := h g List.mem_cons_self
   rw [List.flatMap_cons, List.length_append, List.length_cons, Nat.add_mul]
   omega
 have h1 := key (l.take k) fun g hg' => hg g (List.mem_of_mem_take hg')
 rw [List.length_take] at h1
 omega
set_option maxHeartbeats 8000000 in
theorem zmY (c : Ci) (hc : CFit c) (hg1 : c.gts.length ≤ 1000) (hg : ∀ g ∈ c.gts, g.ins.length ≤ 1000) (hz : ∀ s ∈ zar c, s.size ≤ 1000000) (o : Nat → O) : Ck Hy 82 [.ag (cA c)] o (zcD c) := by
 have hnets := zeT Hy c hc
 have hnl : (z2 c).length ≤ 3000000 := by
  have := hc.ins; have := hc.las; have := hc.gts
  unfold z2
  rw [List.length_append, List.length_append, List.length_map, List.length_map]; omega
 have hzn : ∀ s ∈ z2 c, s.size ≤ 1000000 := fun s hs => hz s (by
  unfold z2 at hs
  unfold zar
  rcases List.mem_append.1 hs with h | h
  ·exact List.mem_append_left _ h
  refine List.mem_append_right _ (List.mem_append_right _ ?_)
  rcases List.mem_append.1 h with h | h
  ·obtain ⟨x, hx, rfl⟩ := List.mem_map.1 h
   exact List.mem_append_left _ (List.mem_flatMap.2 ⟨x, hx, List.mem_cons_self⟩)
  ·obtain ⟨x, hx, rfl⟩ := List.mem_map.1 h
   exact List.mem_append_right _ (List.mem_flatMap.2 ⟨x, hx, List.mem_cons_self⟩))
 have hzu : ∀ s ∈ zbg c, s.size ≤ 1000000 := fun s hs => hz s (by
  unfold zbg at hs
  unfold zar
  refine List.mem_append_right _ ?_
  rcases List.mem_append.1 hs with h | h
  ·exact List.mem_append_left _ h
  refine List.mem_append_right _ ?_
  rcases List.mem_append.1 h with h | h
  ·obtain ⟨x, hx, rfl⟩ := List.mem_map.1 h
   exact List.mem_append_left _ (List.mem_flatMap.2 ⟨x, hx, List.mem_cons_of_mem _ List.mem_cons_self⟩)
  ·obtain ⟨x, hx, hm⟩ := List.mem_flatMap.1 h
   exact List.mem_append_right _ (List.mem_flatMap.2 ⟨x, hx, List.mem_cons_of_mem _ hm⟩))
 obtain ⟨R, e⟩ : ∃ R, R = zcD c := ⟨_, rfl⟩
 rw [← e]
 unfold zcD at e
 have hue : zbg c = c.outs ++ (c.las.map (·.next) ++ c.gts.flatMap (·.ins)) := rfl
 generalize z2 c = nets at *
 generalize zbg c = used at *
 obtain ⟨ins, outs, las, gts⟩ := c
 obtain ⟨h1, h2, h3, h4⟩ := hc
 simp only at h1 h2 h3 h4 hg hg1 hue
 simp only [cE] at hnets
 have hcl := fun (o : Nat → O) => zf6 Hy (sR outs) (zbs outs) (by rw [zdu]; exact h2) (o := o) (R := [] ++ [2005]) (by simp)
 have hfl := zmX gts hg1 hg
 have hM := ziC
 have hks : zaS tt 9 = .str := rfl
 refine zca (cls := fun d => 7500 + d) zB zD Tryz.func82 rfl (by decide) (Nat.le_of_ble_eq_true rfl) ?_
 rw [show Tryz.f82.ntmps = 72 from rfl, zC]
 simp only [List.zipIdx_cons, List.zipIdx_nil, List.map_cons, List.map_nil, Nat.reduceAdd, cA]
 repeat' first | apply zg | refine zf rfl fun K E hK hE => ?_ | (refine za fun κ η => ?_; simp only [go_sem, simprocAttr, hks]; (repeat refine ⟨by omega, ?_⟩); refine η _ ?_; clear η κ) | (refine zd (hK _ ?_); clear hE hK E K) | apply zb
 refine za fun κ η => ?_; simp only [go_sem, simprocAttr]; refine ⟨_, hnets, ?_⟩; simp only [go_sem, simprocAttr]; refine η _ ?_; clear η κ
 repeat' first | apply zj | (refine za fun κ η => ?_; simp only [go_sem, simprocAttr]; refine η _ ?_; clear η κ) | (refine zd (hK _ ?_); clear hE hK E K) | apply zb
 refine zW (fun m s' => ∃ k : Nat, m = nets.length - k ∧ k ≤ nets.length ∧ ∃ F G0 q p E, s' = nf 72 F G0 [(1, .ptr 7501 p 0), (2, .row 7514 q), (16, .t (.sl (sR nets))), (17, .t (.i .i64 nets.length)), (18, .t (.i .i64 k))] [] ∧ G0 7501 = ⟨p, .cells 26 [.t (.sl (sR ins)), .t (.sl (sR outs)), .t (.sl (lsR las)), .t (.sl (gsR gts))]⟩ ∧ G0 7514 = ⟨q, .map .str E⟩ ∧ SetM E (nets.take k) ∧ Lo o G0) nets.length ?_ ?_
 ·exact ⟨0, by omega, by omega, _, _, _, _, _, zp rfl ⟨rfl, rfl, rfl, rfl, rfl, trivial⟩ trivial, rfl, rfl, SetM.nil, zak rfl⟩
 rintro m s' ⟨k, rfl, hk, F, G0, q, p, E, rfl, g1, g2, hE, l1⟩
 repeat' first | apply zg | refine zf rfl fun K E hK hE => ?_ | (refine za fun κ η => ?_; simp only [go_sem, simprocAttr]; refine η _ ?_; clear η κ) | (refine zd (hK _ ?_); clear hE hK E K) | apply zb
 refine zh _ rfl (fun hq => ?_) (fun hq => ?_)
 ·simp only [decide_eq_true_eq] at hq
  obtain ⟨x, hx⟩ : ∃ x, nets[k]? = some x := ⟨_, List.getElem?_eq_getElem (by omega)⟩
  have hx' := za5 hx
  have hsz := hzn x (List.mem_of_getElem? hx)
  have hnx : nets.take (k + 1) = nets.take k ++ [x] := by rw [List.take_add_one, hx]; rfl
  have hE2 := hE.put x
  rw [← hnx] at hE2
  generalize hpu : zaE E (.s x) (.ag []) = E2 at hE2
  repeat' first | apply zg | apply zj | refine zf rfl fun K E hK hE => ?_ | (refine za fun κ η => ?_; simp only [go_sem, simprocAttr, hx', g2, hks, Ky.ok, hpu]; (repeat refine ⟨by omega, ?_⟩); refine η _ ?_; clear η κ) | (refine zd (hK _ ?_); clear hE hK E K) | apply zb | apply zq | apply zi | apply zs
  exact ⟨nets.length - (k + 1), by omega, k + 1, rfl, by omega, _, _, _, _, E2, zp rfl ⟨rfl, rfl, rfl, rfl, rfl, trivial⟩ trivial, g1, rfl, hE2, l1.trans (zak rfl)⟩
 simp only [decide_eq_false_iff_not] at hq
 rw [List.take_of_length_le (by omega)] at hE
 clear hq hk
 repeat' first | apply zg | refine zf rfl fun K E hK hE => ?_ | (refine za fun κ η => ?_; simp only [go_sem, simprocAttr, g1]; (repeat refine ⟨by omega, ?_⟩); refine η _ ?_; clear η κ) | apply zb | apply zt | apply zu | apply zw | apply zx
 refine zcH (R := []) (W := [2005]) fun κ η => ?_; simp only [go_sem, simprocAttr]; refine ⟨_, _, ?wr_, hcl _, ?_⟩; (case wr_ => rfl); (try simp only [go_sem, simprocAttr]); refine η _ ?_; clear η κ
 repeat' first | apply zg | apply zj | refine zf rfl fun K E hK hE => ?_ | (refine za fun κ η => ?_; simp only [go_sem, simprocAttr, g1]; (repeat refine ⟨by omega, ?_⟩); refine η _ ?_; clear η κ) | (refine zd (hK _ ?_); clear hE hK E K) | apply zb
 refine zW (fun m s' => ∃ k : Nat, m = las.length - k ∧ k ≤ las.length ∧ ∃ F G0 r, s' = nf 72 F G0 [(1, .ptr 7501 p 0), (2, .row 7514 q), (5, .row 2005 r), (30, .t (.sl (lsR las))), (31, .t (.i .i64 las.length)), (32, .t (.i .i64 k))] [] ∧ G0 7501 = ⟨p, .cells 26 [.t (.sl (sR ins)), .t (.sl (sR outs)), .t (.sl (lsR las)), .t (.sl (gsR gts))]⟩ ∧ G0 7514 = ⟨q, .map .str E⟩ ∧ G0 2005 = ⟨r, .row 9 1 (sR (outs ++ (las.take k).map (·.next)))⟩ ∧ Lo o G0) las.length ?_ ?_
 ·exact ⟨0, by omega, by omega, _, _, _, zp rfl ⟨rfl, rfl, rfl, rfl, rfl, rfl, trivial⟩ trivial, g1, g2, by rw [List.take_zero, List.map_nil, List.append_nil]; rfl, l1.trans (zak rfl)⟩
 clear g1 g2 l1
 rintro m s' ⟨k, rfl, hk, F, G0, r, rfl, g1, g2, g3, l1⟩
 have hb : (outs ++ (las.take k).map (·.next)).length ≤ 2000000 := by rw [List.length_append, List.length_map, List.length_take]; omega
 repeat' first | apply zg | refine zf rfl fun K E hK hE => ?_ | (refine za fun κ η => ?_; simp only [go_sem, simprocAttr]; refine η _ ?_; clear η κ) | (refine zd (hK _ ?_); clear hE hK E K) | apply zb
 refine zh _ rfl (fun hq => ?_) (fun hq => ?_)
 ·simp only [decide_eq_true_eq] at hq
  obtain ⟨x, hx⟩ : ∃ x, las[k]? = some x := ⟨_, List.getElem?_eq_getElem (by omega)⟩
  have hx' := zbv hx
  have hs : sR (outs ++ (las.take (k + 1)).map (·.next)) = sR (outs ++ (las.take k).map (·.next)) ++ [[.s x.next]] := by
   rw [List.take_add_one, hx, List.map_append, ← List.append_assoc, zbC]
   rfl
  generalize outs ++ (las.take k).map (·.next) = w at g3 hs hb
  repeat' first | apply zg | apply zj | refine zf rfl fun K E hK hE => ?_ | (refine za fun κ η => ?_; simp only [go_sem, simprocAttr, hx', g3]; (repeat refine ⟨by omega, ?_⟩); refine η _ ?_; clear η κ) | (refine zd (hK _ ?_); clear hE hK E K) | apply zb | apply zq | apply zi | apply zs
  exact ⟨las.length - (k + 1), by omega, k + 1, rfl, by omega, _, _, _, zp rfl ⟨rfl, rfl, rfl, rfl, rfl, rfl, trivial⟩ trivial, g1, g2, by rw [hs]; rfl, l1.trans (zak rfl)⟩
 simp only [decide_eq_false_iff_not] at hq
 rw [List.take_of_length_le (by omega)] at g3
 clear hq hk hb
 repeat' first | apply zg | apply zj | refine zf rfl fun K E hK hE => ?_ | (refine za fun κ η => ?_; simp only [go_sem, simprocAttr, g1]; (repeat refine ⟨by omega, ?_⟩); refine η _ ?_; clear η κ) | (refine zd (hK _ ?_); clear hE hK E K) | apply zb | apply zt | apply zu | apply zw | apply zx
 refine zW (fun m s' => ∃ k : Nat, m = gts.length - k ∧ k ≤ gts.length ∧ ∃ F G0 r, s' = nf 72 F G0 [(2, .row 7514 q), (5, .row 2005 r), (43, .t (.sl (gsR gts))), (44, .t (.i .i64 gts.length)), (45, .t (.i .i64 k))] [] ∧ G0 7514 = ⟨q, .map .str E⟩ ∧ G0 2005 = ⟨r, .row 9 1 (sR ((outs ++ las.map (·.next)) ++ (gts.take k).flatMap (·.ins)))⟩ ∧ Lo o G0) gts.length ?_ ?_
 ·exact ⟨0, by omega, by omega, _, _, _, zp rfl ⟨rfl, rfl, rfl, rfl, rfl, trivial⟩ trivial, g2, by rw [List.take_zero, List.flatMap_nil, List.append_nil]; exact g3, l1.trans (zak rfl)⟩
 clear g1 g2 g3 l1
 rintro m s' ⟨k, rfl, hk, F, G0, r, rfl, g2, g3, l1⟩
 have hb : ((outs ++ las.map (·.next)) ++ (gts.take k).flatMap (·.ins)).length ≤ 3000000 := by
  have := hfl k
  rw [List.length_append, List.length_append, List.length_map]; omega
 repeat' first | apply zg | refine zf rfl fun K E hK hE => ?_ | (refine za fun κ η => ?_; simp only [go_sem, simprocAttr]; refine η _ ?_; clear η κ) | (refine zd (hK _ ?_); clear hE hK E K) | apply zb
 refine zh _ rfl (fun hq => ?_) (fun hq => ?_)
 ·simp only [decide_eq_true_eq] at hq
  obtain ⟨x, hx⟩ : ∃ x, gts[k]? = some x := ⟨_, List.getElem?_eq_getElem (by omega)⟩
  have hx' := zaQ hx
  have hxl := hg x (List.mem_of_getElem? hx)
  have hs := ziP (outs ++ las.map (·.next)) hx
  have hso := zbs x.ins
  generalize (outs ++ las.map (·.next)) ++ (gts.take k).flatMap (·.ins) = w at g3 hs hb
  repeat' first | apply zg | apply zj | refine zf rfl fun K E hK hE => ?_ | (refine za fun κ η => ?_; simp only [go_sem, simprocAttr, hx', g3, eq_true hso]; (repeat refine ⟨by omega, ?_⟩); refine η _ ?_; clear η κ) | (refine zd (hK _ ?_); clear hE hK E K) | apply zb | apply zq | apply zi | apply zs
  exact ⟨gts.length - (k + 1), by omega, k + 1, rfl, by omega, _, _, _, zp rfl ⟨rfl, rfl, rfl, rfl, rfl, trivial⟩ trivial, g2, by rw [hs]; rfl, l1.trans (zak rfl)⟩
 simp only [decide_eq_false_iff_not] at hq
 rw [List.take_of_length_le (by omega)] at g3 hb
 rw [List.append_assoc, ← hue] at g3 hb
 clear hq hk hfl hue
 repeat' first | apply zg | apply zj | refine zf rfl fun K E hK hE => ?_ | (refine za fun κ η => ?_; simp only [go_sem, simprocAttr, g3]; refine η _ ?_; clear η κ) | (refine zd (hK _ ?_); clear hE hK E K) | apply zb | apply zt | apply zu | apply zw | apply zx
 refine zW (fun m s' => ∃ k : Nat, m = used.length - k ∧ k ≤ used.length ∧ (∀ (j : Nat) y, j < k → used[j]? = some y → (!decide (y ∈ nets)) = false) ∧ ∃ F G0, s' = nf 72 F G0 [(2, .row 7514 q), (54, .row 2005 r), (55, .t (.i .i64 used.length)), (56, .t (.i .i64 k))] [] ∧ G0 7514 = ⟨q, .map .str E⟩ ∧ G0 2005 = ⟨r, .row 9 1 (sR used)⟩ ∧ Lo o G0) used.length ?_ ?_
 ·exact ⟨0, by omega, by omega, fun j x hj => absurd hj (Nat.not_lt_zero j), _, _, zp rfl ⟨rfl, rfl, rfl, rfl, trivial⟩ trivial, g2, g3, l1.trans (zak rfl)⟩
 clear g2 g3 l1
 rintro m s' ⟨k, rfl, hk, hno, F, G0, rfl, g2, g3, l1⟩
 repeat' first | apply zg | refine zf rfl fun K E hK hE => ?_ | (refine za fun κ η => ?_; simp only [go_sem, simprocAttr]; refine η _ ?_; clear η κ) | (refine zd (hK _ ?_); clear hE hK E K) | apply zb
 refine zh _ rfl (fun hq => ?_) (fun hq => ?_)
 ·simp only [decide_eq_true_eq] at hq
  obtain ⟨x, hx⟩ : ∃ x, used[k]? = some x := ⟨_, List.getElem?_eq_getElem (by omega)⟩
  have hx' := za5 hx
  have hsz := hzu x (List.mem_of_getElem? hx)
  have hgm := hE x
  by_cases hm : x ∈ nets
  ·rw [if_pos hm] at hgm
   repeat' first | apply zg | apply zj | refine zf rfl fun K E hK hE => ?_ | (refine za fun κ η => ?_; simp only [go_sem, simprocAttr, hx', g3, g2, hks, Ky.ok, hgm]; (repeat refine ⟨by omega, ?_⟩); refine η _ ?_; clear η κ) | (refine zd (hK _ ?_); clear hE hK E K) | apply zb | refine zh false rfl (fun h => (by cases h)) fun _ => ?_ | apply zq | apply zi | apply zs
   refine ⟨used.length - (k + 1), by omega, k + 1, rfl, by omega, fun j y hj hy => ?_, _, _, zp rfl ⟨rfl, rfl, rfl, rfl, trivial⟩ trivial, g2, g3, l1.trans (zak rfl)⟩
   rcases Nat.lt_or_eq_of_le (Nat.lt_succ_iff.1 hj) with h | rfl
   ·exact hno j y h hy
   ·rw [hx] at hy; cases hy
    rw [decide_eq_true hm]
    rfl
  ·rw [if_neg hm] at hgm
   repeat' first | apply zg | apply zj | refine zf rfl fun K E hK hE => ?_ | (refine za fun κ η => ?_; simp only [go_sem, simprocAttr, hx', g3, g2, hks, Ky.ok, hgm]; (repeat refine ⟨by omega, ?_⟩); refine η _ ?_; clear η κ) | (refine zd (hK _ ?_); clear hE hK E K) | apply zb | refine zh true rfl (fun _ => ?_) (fun h => (by cases h)) | apply zi
   refine zbR ?_; simp only [go_sem, simprocAttr]; refine hE.2.2 _ ?_
   repeat' first | apply zM | apply zN | apply zO
   exact zbj ⟨⟨(6, x), by rw [e, zck hx (by rw [decide_eq_false hm]; rfl) hno]; rfl, rfl⟩, l1.trans (zak rfl)⟩
 ·simp only [decide_eq_false_iff_not] at hq
  repeat' first | apply zt | apply zu | apply zw | apply zx
  exact zcO ⟨rfl, by rw [e, zcl fun j y hj => hno j y (by omega)]; rfl, l1⟩
end Go.Proofs.YtbhoeanfnbkenaaGreatDoor
namespace Go.Proofs.YtbhoeanfnbkenaaGreatDoor
open Go.RowKit Go.WideMaps
set_option maxRecDepth 100000
set_option linter.unusedSimpArgs false
variable (Hy : World → Prop)
attribute [local irreducible] zU zY cwp z1 z6 lpQ z8 asQ bdQ bdY zab zac zad zaa
theorem zdq {o : Nat → O} {g1 g2 : Nat} {y1 y2 : A} {w : Int × ByteArray} (h2 : o 2 = ⟨g1, .cells 30 [y1]⟩) (h3 : o 3 = ⟨g2, .cells 9 [y2]⟩) : Cr Tryz.prog Hy 77 [.ptr 2 g1 0, .ptr 3 g2 0] o (some (wrA w)) fun o' => o' 2 = ⟨g1, .cells 30 [.t (.i .i64 w.1)]⟩ ∧ o' 3 = ⟨g2, .cells 9 [.t (.s w.2)]⟩ := by
 refine zhe (cls := fun d => 7500 + d) zB zD Tryz.func77 rfl rfl rfl (by decide) (Nat.le_of_ble_eq_true rfl) (by decide) ?_
 rw [show Tryz.f77.ntmps = 13 from rfl, zC]
 simp only [List.zipIdx_cons, List.zipIdx_nil, List.map_cons, List.map_nil, Nat.reduceAdd, wrA]
 simp only [Option.getD_some, Option.getD_none, zfn]
 repeat' first | apply zg | refine zf rfl fun K E hK hE => ?_ | refine zG rfl (by kernel_rfl) fun K E hK hE => ?_ | ((first | refine za fun κ η => ?_ | refine zr (by kernel_rfl) fun κ η => ?_); simp only [go_sem, simprocAttr, h2, h3]; (repeat refine ⟨by omega, ?_⟩); refine η _ ?_; clear η κ) | (refine zd (hK _ ?_); clear hE hK E K) | apply zb | refine zh true rfl (fun _ => ?_) (fun h => (by cases h)) | (refine zH (hK _ ?_); clear hE hK E K) | apply zT
 exact ⟨rfl, rfl⟩
theorem zmZ {o : Nat → O} {g1 g2 : Nat} : Cr Tryz.prog Hy 77 [.ptr 2 g1 0, .ptr 3 g2 0] o none fun o' => o' = o := by
 refine zhe (cls := fun d => 7500 + d) zB zD Tryz.func77 rfl rfl rfl (by decide) (Nat.le_of_ble_eq_true rfl) (by decide) ?_
 rw [show Tryz.f77.ntmps = 13 from rfl, zC]
 simp only [List.zipIdx_cons, List.zipIdx_nil, List.map_cons, List.map_nil, Nat.reduceAdd]
 simp only [Option.getD_some, Option.getD_none, zfn]
 repeat' first | apply zg | refine zf rfl fun K E hK hE => ?_ | (refine za fun κ η => ?_; simp only [go_sem, simprocAttr]; refine η _ ?_; clear η κ) | (refine zd (hK _ ?_); clear hE hK E K) | apply zb | refine zh false rfl (fun h => (by cases h)) fun _ => ?_ | apply zi | apply zT
 rfl
def zay (c : Ci) : Wr := (za4 c).or ((zao (zar c)).or ((zaL (z2 c)).or ((zaL c.outs).or ((zcm c).or (zcD c)))))
def zai (c : Ci) : Int × ByteArray := (zay c).getD (0, zba)
theorem zeP {c : Ci} (h : za4 c = none) : (c.ins.length + c.las.length + c.gts.length ≤ 200 ∧ c.outs.length ≤ 200) ∧ ∀ g ∈ c.gts, g.ins.length ≤ 8 ∧ g.rows.length ≤ 128 := by
 unfold za4 at h
 have hb : zaW c = false := by
  cases hb : zaW c with
  | true => rw [hb] at h; cases h
  | false => rfl
 unfold zaW at hb
 simp only [Bool.or_eq_false_iff, decide_eq_false_iff_not, List.any_eq_false] at hb
 refine ⟨by omega, fun g hg => ?_⟩
 have := hb.2.2 g hg
 unfold zbf at this
 simp only [Bool.or_eq_true, decide_eq_true_eq] at this
 omega
theorem zeQ {l : List ByteArray} (h : zao l = none) : ∀ s ∈ l, zaV s = true := fun s hs => by
 unfold zao at h
 have := List.find?_eq_none.1 (Option.map_eq_none_iff.1 h) s hs
 simpa using this
theorem zeR {s : ByteArray} (h : zaV s = true) : s.size ≤ 40 := by
 unfold zaV at h
 simp only [Bool.and_eq_true, decide_eq_true_eq] at h
 exact h.2.1
theorem ziQ {c : Ci} {s : ByteArray} (hs : s ∈ z2 c) : s ∈ zar c := by
 unfold z2 at hs
 unfold zar
 rcases List.mem_append.1 hs with h | h
 ·exact List.mem_append_left _ h
 refine List.mem_append_right _ (List.mem_append_right _ ?_)
 rcases List.mem_append.1 h with h | h
 ·obtain ⟨x, hx, rfl⟩ := List.mem_map.1 h
  exact List.mem_append_left _ (List.mem_flatMap.2 ⟨x, hx, List.mem_cons_self⟩)
 ·obtain ⟨x, hx, rfl⟩ := List.mem_map.1 h
  exact List.mem_append_right _ (List.mem_flatMap.2 ⟨x, hx, List.mem_cons_self⟩)
theorem zb6 (c : Ci) : (z2 c).length = c.ins.length + c.las.length + c.gts.length := by
 unfold z2
 rw [List.length_append, List.length_append, List.length_map, List.length_map]
 omega
set_option maxHeartbeats 8000000 in
theorem ziR (c : Ci) (hr : CRoom c) (hgo : GOk c.gts) (hlo : LOk c.las) : Ct Tryz.prog Hy 67 [.ag (cE c)] [.i .i64 (zai c).1, .s (zai c).2] := by
 refine Ct.of_cm (R := fun rs o' => rs = [.t (.i .i64 (zai c).1), .t (.s (zai c).2)]) ?_ ?_
 rotate_left
 ·rintro _ o' rfl
  exact rfl
 have hbad : ∀ w, zay c = some w → zai c = w := fun w h => by rw [zai, h]; rfl
 have hok : zay c = none → zai c = (0, zba) := fun h => by rw [zai, h]; rfl
 have hend : ∀ (F : Nat → A) (G : Nat → O) (ts : List (Nat × A)) (os : List (Nat × O)), (nf 19 F G ts os).o 2 = ⟨1, .cells 30 [.t (.i .i64 (zai c).1)]⟩ → (nf 19 F G ts os).o 3 = ⟨1, .cells 9 [.t (.s (zai c).2)]⟩ → (nf 19 F G ts os).t 2 = .ptr 2 1 0 → (nf 19 F G ts os).t 3 = .ptr 3 1 0 →
   zaa Tryz.prog Hy tt Tryz.f67.results.toList 77 [.ptr 2 1 0, .ptr 3 1 0] (fun rs _ => rs = [.t (.i .i64 (zai c).1), .t (.s (zai c).2)]) .ret (nf 19 F G ts os) := fun F G ts os h1 h2 h3 h4 => by
  refine zkK (zmZ Hy) ?_
  rintro _ rfl
  apply zS
  have h1' : zae os 2 (G 2) = _ := h1
  have h2' : zae os 3 (G 3) = _ := h2
  have h3' : zbH ts 2 (F 2) = .ptr 2 1 0 := h3
  have h4' : zbH ts 3 (F 3) = .ptr 3 1 0 := h4
  simp only [go_sem, simprocAttr, h1', h2', h3', h4']
 have k1 := zmw Hy c hr
 simp only [cA] at k1
 refine zko (cls := _root_.id) zB zD Tryz.func67 rfl rfl (by decide) (Nat.le_of_ble_eq_true rfl) (by decide) ?_
 rw [show Tryz.f67.ntmps = 19 from rfl, zC]
 simp only [List.zipIdx_cons, List.zipIdx_nil, List.map_cons, List.map_nil, Nat.reduceAdd, cE]
 repeat' first | refine zf rfl fun K E hK hE => ?_ | (refine za fun κ η => ?_; simp only [go_sem, simprocAttr]; refine η _ ?_; clear η κ) | (refine zd (hK _ ?_); clear hE hK E K) | apply zV
 refine ⟨rfl, ?_⟩
 simp only [go_sem, simprocAttr]
 repeat' first | apply zg | refine zf rfl fun K E hK hE => ?_ | (refine za fun κ η => ?_; simp only [go_sem, simprocAttr]; refine η _ ?_; clear η κ)
 refine zbS fun κ η => ?_; simp only [go_sem, simprocAttr]; refine ⟨_, _, k1 _, ?_, ?_⟩
 rotate_left
 ·rintro _ o' ⟨⟨w, hw, rfl⟩, hl⟩
  have e2' : o' 2 = ⟨1, .cells 30 [.t (.i .i64 0)]⟩ := (hl 2 (by decide)).trans rfl
  have e3' : o' 3 = ⟨1, .cells 9 [.t (.s ⟨#[]⟩)]⟩ := (hl 3 (by decide)).trans rfl
  have hcw := hbad w (by unfold zay; rw [hw]; rfl)
  clear hl
  (try simp only [go_sem, simprocAttr]); refine hE.2.2 _ ?_
  repeat' apply zM
  refine zc9 (zdq Hy (w := w) e2' e3') ?_
  rintro o2 ⟨h2, h3⟩
  apply zS
  rw [hcw]
  simp only [go_sem, simprocAttr, h2, h3]
 rintro _ o' ⟨rfl, n1, hl⟩
 have e1 : o' 1 = ⟨1, .cells 26 [.t (.sl (sR c.ins)), .t (.sl (sR c.outs)), .t (.sl (lsR c.las)), .t (.sl (gsR c.gts))]⟩ := (hl 1 (by decide)).trans rfl
 have e2 : o' 2 = ⟨1, .cells 30 [.t (.i .i64 0)]⟩ := (hl 2 (by decide)).trans rfl
 have e3 : o' 3 = ⟨1, .cells 9 [.t (.s ⟨#[]⟩)]⟩ := (hl 3 (by decide)).trans rfl
 clear hl
 obtain ⟨⟨f1, f2⟩, f3⟩ := zeP n1
 have hc : CFit c := ⟨by omega, by omega, by omega, by omega⟩
 have hg : zfR c.gts := fun g h => by have := f3 g h; omega
 have k2 := zmx Hy c hc hg
 simp only [cA] at k2
 (try simp only [go_sem, simprocAttr]); refine η _ ?_; clear η κ
 repeat' first | apply zg | refine zf rfl fun K E hK hE => ?_ | (refine za fun κ η => ?_; simp only [go_sem, simprocAttr, e1]; refine η _ ?_; clear η κ) | (refine zd (hK _ ?_); clear hE hK E K) | apply zb
 refine zbS fun κ η => ?_; simp only [go_sem, simprocAttr]; refine ⟨_, _, k2 _, ?_, ?_⟩
 rotate_left
 ·rintro _ o' ⟨⟨w, hw, rfl⟩, hl⟩
  have e2' : o' 2 = ⟨1, .cells 30 [.t (.i .i64 0)]⟩ := (hl 2 (by decide)).trans e2
  have e3' : o' 3 = ⟨1, .cells 9 [.t (.s ⟨#[]⟩)]⟩ := (hl 3 (by decide)).trans e3
  have hcw := hbad w (by unfold zay; rw [n1, hw]; rfl)
  clear hl
  (try simp only [go_sem, simprocAttr]); refine hE.2.2 _ ?_
  repeat' apply zM
  refine zc9 (zdq Hy (w := w) e2' e3') ?_
  rintro o2 ⟨h2, h3⟩
  apply zS
  rw [hcw]
  simp only [go_sem, simprocAttr, h2, h3]
 rintro _ o' ⟨rfl, n2, hl⟩
 replace e1 : o' 1 = ⟨1, .cells 26 [.t (.sl (sR c.ins)), .t (.sl (sR c.outs)), .t (.sl (lsR c.las)), .t (.sl (gsR c.gts))]⟩ := (hl 1 (by decide)).trans e1
 replace e2 : o' 2 = ⟨1, .cells 30 [.t (.i .i64 0)]⟩ := (hl 2 (by decide)).trans e2
 replace e3 : o' 3 = ⟨1, .cells 9 [.t (.s ⟨#[]⟩)]⟩ := (hl 3 (by decide)).trans e3
 clear hl
 have hz : ∀ s ∈ zar c, s.size ≤ 1000000 := fun s hs => by have := zeR (zeQ n2 s hs); omega
 have hnets := zeT Hy c hc
 have hnl := zb6 c
 have k3 := ziF Hy (z2 c) (by omega) fun s hs => hz s (ziQ hs)
 have k4 := ziF Hy c.outs (by omega) fun s hs => hz s (List.mem_append_right _ (List.mem_append_left _ hs))
 have k5 := zmW Hy c hc hg hgo hlo
 have k6 := zmY Hy c hc (by omega) (fun g h => by have := f3 g h; omega) hz
 simp only [cE] at hnets
 simp only [cA] at k5 k6
 (try simp only [go_sem, simprocAttr]); refine η _ ?_; clear η κ
 repeat' first | apply zg | refine zf rfl fun K E hK hE => ?_ | (refine za fun κ η => ?_; simp only [go_sem, simprocAttr, e1]; refine η _ ?_; clear η κ) | (refine zd (hK _ ?_); clear hE hK E K) | apply zb
 refine za fun κ η => ?_; simp only [go_sem, simprocAttr]; refine ⟨_, hnets, ?_⟩; simp only [go_sem, simprocAttr]; refine η _ ?_; clear η κ
 refine zbS fun κ η => ?_; simp only [go_sem, simprocAttr]; refine ⟨_, _, k3 _, ?_, ?_⟩
 rotate_left
 ·rintro _ o' ⟨⟨w, hw, rfl⟩, hl⟩
  have e2' : o' 2 = ⟨1, .cells 30 [.t (.i .i64 0)]⟩ := (hl 2 (by decide)).trans e2
  have e3' : o' 3 = ⟨1, .cells 9 [.t (.s ⟨#[]⟩)]⟩ := (hl 3 (by decide)).trans e3
  have hcw := hbad w (by unfold zay; rw [n1, n2, hw]; rfl)
  clear hl
  (try simp only [go_sem, simprocAttr]); refine hE.2.2 _ ?_
  repeat' apply zM
  refine zc9 (zdq Hy (w := w) e2' e3') ?_
  rintro o2 ⟨h2, h3⟩
  apply zS
  rw [hcw]
  simp only [go_sem, simprocAttr, h2, h3]
 rintro _ o' ⟨rfl, n3, hl⟩
 replace e1 : o' 1 = ⟨1, .cells 26 [.t (.sl (sR c.ins)), .t (.sl (sR c.outs)), .t (.sl (lsR c.las)), .t (.sl (gsR c.gts))]⟩ := (hl 1 (by decide)).trans e1
 replace e2 : o' 2 = ⟨1, .cells 30 [.t (.i .i64 0)]⟩ := (hl 2 (by decide)).trans e2
 replace e3 : o' 3 = ⟨1, .cells 9 [.t (.s ⟨#[]⟩)]⟩ := (hl 3 (by decide)).trans e3
 clear hl
 (try simp only [go_sem, simprocAttr]); refine η _ ?_; clear η κ
 repeat' first | apply zg | refine zf rfl fun K E hK hE => ?_ | (refine za fun κ η => ?_; simp only [go_sem, simprocAttr, e1]; (repeat refine ⟨by omega, ?_⟩); refine η _ ?_; clear η κ) | (refine zd (hK _ ?_); clear hE hK E K) | apply zb
 refine zbS fun κ η => ?_; simp only [go_sem, simprocAttr]; refine ⟨_, _, k4 _, ?_, ?_⟩
 rotate_left
 ·rintro _ o' ⟨⟨w, hw, rfl⟩, hl⟩
  have e2' : o' 2 = ⟨1, .cells 30 [.t (.i .i64 0)]⟩ := (hl 2 (by decide)).trans e2
  have e3' : o' 3 = ⟨1, .cells 9 [.t (.s ⟨#[]⟩)]⟩ := (hl 3 (by decide)).trans e3
  have hcw := hbad w (by unfold zay; rw [n1, n2, n3, hw]; rfl)
  clear hl
  (try simp only [go_sem, simprocAttr]); refine hE.2.2 _ ?_
  repeat' apply zM
  refine zc9 (zdq Hy (w := w) e2' e3') ?_
  rintro o2 ⟨h2, h3⟩
  apply zS
  rw [hcw]
  simp only [go_sem, simprocAttr, h2, h3]
 rintro _ o' ⟨rfl, n4, hl⟩
 replace e1 : o' 1 = ⟨1, .cells 26 [.t (.sl (sR c.ins)), .t (.sl (sR c.outs)), .t (.sl (lsR c.las)), .t (.sl (gsR c.gts))]⟩ := (hl 1 (by decide)).trans e1
 replace e2 : o' 2 = ⟨1, .cells 30 [.t (.i .i64 0)]⟩ := (hl 2 (by decide)).trans e2
 replace e3 : o' 3 = ⟨1, .cells 9 [.t (.s ⟨#[]⟩)]⟩ := (hl 3 (by decide)).trans e3
 clear hl
 (try simp only [go_sem, simprocAttr]); refine η _ ?_; clear η κ
 repeat' first | apply zg | refine zf rfl fun K E hK hE => ?_ | (refine za fun κ η => ?_; simp only [go_sem, simprocAttr, e1]; refine η _ ?_; clear η κ) | (refine zd (hK _ ?_); clear hE hK E K) | apply zb
 refine zbS fun κ η => ?_; simp only [go_sem, simprocAttr]; refine ⟨_, _, k5 _, ?_, ?_⟩
 rotate_left
 ·rintro _ o' ⟨⟨w, hw, rfl⟩, hl⟩
  have e2' : o' 2 = ⟨1, .cells 30 [.t (.i .i64 0)]⟩ := (hl 2 (by decide)).trans e2
  have e3' : o' 3 = ⟨1, .cells 9 [.t (.s ⟨#[]⟩)]⟩ := (hl 3 (by decide)).trans e3
  have hcw := hbad w (by unfold zay; rw [n1, n2, n3, n4, hw]; rfl)
  clear hl
  (try simp only [go_sem, simprocAttr]); refine hE.2.2 _ ?_
  repeat' apply zM
  refine zc9 (zdq Hy (w := w) e2' e3') ?_
  rintro o2 ⟨h2, h3⟩
  apply zS
  rw [hcw]
  simp only [go_sem, simprocAttr, h2, h3]
 rintro _ o' ⟨rfl, n5, hl⟩
 replace e1 : o' 1 = ⟨1, .cells 26 [.t (.sl (sR c.ins)), .t (.sl (sR c.outs)), .t (.sl (lsR c.las)), .t (.sl (gsR c.gts))]⟩ := (hl 1 (by decide)).trans e1
 replace e2 : o' 2 = ⟨1, .cells 30 [.t (.i .i64 0)]⟩ := (hl 2 (by decide)).trans e2
 replace e3 : o' 3 = ⟨1, .cells 9 [.t (.s ⟨#[]⟩)]⟩ := (hl 3 (by decide)).trans e3
 clear hl
 (try simp only [go_sem, simprocAttr]); refine η _ ?_; clear η κ
 repeat' first | apply zg | refine zf rfl fun K E hK hE => ?_ | (refine za fun κ η => ?_; simp only [go_sem, simprocAttr, e1]; refine η _ ?_; clear η κ) | (refine zd (hK _ ?_); clear hE hK E K) | apply zb
 refine zbS fun κ η => ?_; simp only [go_sem, simprocAttr]; refine ⟨_, _, k6 _, ?_, ?_⟩
 rotate_left
 ·rintro _ o' ⟨⟨w, hw, rfl⟩, hl⟩
  have e2' : o' 2 = ⟨1, .cells 30 [.t (.i .i64 0)]⟩ := (hl 2 (by decide)).trans e2
  have e3' : o' 3 = ⟨1, .cells 9 [.t (.s ⟨#[]⟩)]⟩ := (hl 3 (by decide)).trans e3
  have hcw := hbad w (by unfold zay; rw [n1, n2, n3, n4, n5, hw]; rfl)
  clear hl
  (try simp only [go_sem, simprocAttr]); refine hE.2.2 _ ?_
  repeat' apply zM
  refine zc9 (zdq Hy (w := w) e2' e3') ?_
  rintro o2 ⟨h2, h3⟩
  apply zS
  rw [hcw]
  simp only [go_sem, simprocAttr, h2, h3]
 rintro _ o' ⟨rfl, n6, hl⟩
 replace e1 : o' 1 = ⟨1, .cells 26 [.t (.sl (sR c.ins)), .t (.sl (sR c.outs)), .t (.sl (lsR c.las)), .t (.sl (gsR c.gts))]⟩ := (hl 1 (by decide)).trans e1
 replace e2 : o' 2 = ⟨1, .cells 30 [.t (.i .i64 0)]⟩ := (hl 2 (by decide)).trans e2
 replace e3 : o' 3 = ⟨1, .cells 9 [.t (.s ⟨#[]⟩)]⟩ := (hl 3 (by decide)).trans e3
 clear hl
 (try simp only [go_sem, simprocAttr]); refine η _ ?_; clear η κ
 have hcw := hok (by unfold zay; rw [n1, n2, n3, n4, n5, n6]; rfl)
 repeat' first | apply zg | refine zf rfl fun K E hK hE => ?_ | (refine za fun κ η => ?_; simp only [go_sem, simprocAttr, e2, e3]; refine η _ ?_; clear η κ) | (refine zd (hK _ ?_); clear hE hK E K) | apply zb | apply zk
 exact hend _ _ _ _ (by rw [hcw]; rfl) (by rw [hcw]; rfl) rfl rfl
end Go.Proofs.YtbhoeanfnbkenaaGreatDoor
