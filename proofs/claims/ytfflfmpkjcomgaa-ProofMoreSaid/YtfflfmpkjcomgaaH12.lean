import Derived.Test.YtfflfmpkjcomgaaH8
namespace Go.Proofs.Ytfflfmpkjcomgaa
open Go.RowKit
set_option maxRecDepth 100000
set_option linter.unusedSimpArgs false
variable (Hy : World → Prop)
attribute [local irreducible] runM runD cwp seqQ blkQ lpQ retQ asQ bdQ bdY retP
theorem cindex_ct (l : List Int) (x : Int) (hl : l.length ≤ 1000000) : Ct Try.prog Hy 77 [iL l, .i .i64 x] [.i .i64 (ixI (fun y => decide (x = y)) l)] := by
  refine ct_of (cls := _root_.id) tt_ok follows_ Try.func77 rfl (by decide) (Nat.le_of_ble_eq_true rfl) ?_
  rw [show Try.f77.ntmps = 19 from rfl, s0_nf]
  simp only [List.zipIdx_cons, List.zipIdx_nil, List.map_cons, List.map_nil, Nat.reduceAdd, iL]
  repeat' first | refine c_seq ?_ | refine c_block ?_ | refine c_reg' rfl fun K E hK hE => ?_ | (refine r_opN fun κ η => ?_; simp only [go_sem, Nat.reduceLT, Nat.reduceEqDiff, Nat.reduceAdd, Nat.reduceMul, Nat.reduceLeDiff, Nat.le_refl, reduceIte, reduceCtorEq]; refine η _ ?_; clear η κ) | (refine r_nil (hK _ ?_); clear hE hK E K) | refine q_seq ?_
  refine c_loop (fun m s' => ∃ k : Nat, m = l.length - k ∧ k ≤ l.length ∧ (∀ (j : Nat) y, j < k → l[j]? = some y → decide (x = y) = false) ∧ ∃ F G0, s' = nf 19 F G0 [(0, .t (iL l)), (1, .t (.i .i64 x)), (6, .t (iL l)), (7, .t (.i .i64 l.length)), (8, .t (.i .i64 k))] []) (l.length) ?_ ?_
  · exact ⟨0, by omega, by omega, fun j x hj => absurd hj (Nat.not_lt_zero j), _, _, nf_of rfl ⟨rfl, rfl, rfl, rfl, rfl, trivial⟩ trivial⟩
  rintro m s' ⟨k, rfl, hk, hno, F, G0, rfl⟩
  simp only [iL]
  repeat' first | refine c_seq ?_ | refine c_reg' rfl fun K E hK hE => ?_ | (refine r_opN fun κ η => ?_; simp only [go_sem, Nat.reduceLT, Nat.reduceEqDiff, Nat.reduceAdd, Nat.reduceMul, Nat.reduceLeDiff, Nat.le_refl, reduceIte, reduceCtorEq]; refine η _ ?_; clear η κ) | (refine r_nil (hK _ ?_); clear hE hK E K) | refine q_seq ?_
  refine c_cond _ rfl (fun hq => ?_) (fun hq => ?_)
  · simp only [decide_eq_true_eq] at hq
    obtain ⟨y, hy⟩ : ∃ y, l[k]? = some y := ⟨_, List.getElem?_eq_getElem (by omega)⟩
    repeat' first | refine c_seq ?_ | refine c_block ?_ | refine c_reg' rfl fun K E hK hE => ?_ | (refine r_opN fun κ η => ?_; simp only [go_sem, Nat.reduceLT, Nat.reduceEqDiff, Nat.reduceAdd, Nat.reduceMul, Nat.reduceLeDiff, Nat.le_refl, reduceIte, reduceCtorEq, hy]; (repeat refine ⟨by omega, ?_⟩); refine η _ ?_; clear η κ) | (refine r_nil (hK _ ?_); clear hE hK E K) | refine q_seq ?_ | refine c_skip ?_
    refine c_cond _ rfl (fun hq2 => ?_) (fun hq2 => ?_)
    · repeat' first | refine c_seq ?_ | refine c_reg' rfl fun K E hK hE => ?_ | (refine r_opN fun κ η => ?_; simp only [go_sem, Nat.reduceLT, Nat.reduceEqDiff, Nat.reduceAdd, Nat.reduceMul, Nat.reduceLeDiff, Nat.le_refl, reduceIte, reduceCtorEq]; refine η _ ?_; clear η κ) | (refine r_nil (hK _ ?_); clear hE hK E K) | refine q_seq ?_ | refine c_ret ?_ | refine q_seqR ?_ | refine q_blkR ?_ | refine q_lpR ?_ | (refine q_ret ?_; refine q_r1 ?_; simp only [go_sem, Nat.reduceLT, Nat.reduceEqDiff, Nat.reduceAdd, Nat.reduceMul, Nat.reduceLeDiff, Nat.le_refl, reduceIte, reduceCtorEq])
      rw [ixI_some hy hq2 hno]
    · repeat' first | refine c_reg' rfl fun K E hK hE => ?_ | (refine r_opN fun κ η => ?_; simp only [go_sem, Nat.reduceLT, Nat.reduceEqDiff, Nat.reduceAdd, Nat.reduceMul, Nat.reduceLeDiff, Nat.le_refl, reduceIte, reduceCtorEq]; (repeat refine ⟨by omega, ?_⟩); refine η _ ?_; clear η κ) | (refine r_nil (hK _ ?_); clear hE hK E K) | refine q_seq ?_ | refine q_blk ?_ | refine c_skip ?_ | refine q_lpN ?_
      refine ⟨l.length - (k + 1), by omega, k + 1, rfl, by omega, fun j z hj hz => ?_, _, _, nf_of rfl ⟨rfl, rfl, rfl, rfl, rfl, trivial⟩ trivial⟩
      rcases Nat.lt_or_eq_of_le (Nat.lt_succ_iff.1 hj) with h | rfl
      · exact hno j z h hz
      · rw [hy] at hz
        cases hz
        exact hq2
  · simp only [decide_eq_false_iff_not] at hq
    repeat' first | refine c_seq ?_ | refine c_reg' rfl fun K E hK hE => ?_ | (refine r_opN fun κ η => ?_; simp only [go_sem, Nat.reduceLT, Nat.reduceEqDiff, Nat.reduceAdd, Nat.reduceMul, Nat.reduceLeDiff, Nat.le_refl, reduceIte, reduceCtorEq]; refine η _ ?_; clear η κ) | (refine r_nil (hK _ ?_); clear hE hK E K) | refine q_seq ?_ | refine c_exit ?_ | refine c_ret ?_ | refine q_seqE ?_ | refine q_blkHit ?_ | refine q_lpE ?_ | (refine q_ret ?_; refine q_r1 ?_; simp only [go_sem, Nat.reduceLT, Nat.reduceEqDiff, Nat.reduceAdd, Nat.reduceMul, Nat.reduceLeDiff, Nat.le_refl, reduceIte, reduceCtorEq])
    rw [ixI_none (fun j y hj hy => hno j y (by omega) hy)]
theorem any_eq {l : List Int} {x : Int} : (l.any fun y => decide (x = y)) = decide (x ∈ l) := by
  rw [Bool.eq_iff_iff, List.any_eq_true, decide_eq_true_eq]
  exact ⟨fun ⟨y, h1, h2⟩ => (of_decide_eq_true h2) ▸ h1, fun h => ⟨x, h, decide_eq_true rfl⟩⟩
theorem ccontains_ct (l : List Int) (x : Int) (hl : l.length ≤ 1000000) : Ct Try.prog Hy 62 [iL l, .i .i64 x] [.b (decide (x ∈ l))] := by
  have h := cindex_ct Hy l x hl
  simp only [iL] at h
  have e := ixI_ge (fun y => decide (x = y)) l
  rw [any_eq] at e
  refine ct_of (cls := _root_.id) tt_ok follows_ Try.func62 rfl (by decide) (Nat.le_of_ble_eq_true rfl) ?_
  rw [show Try.f62.ntmps = 9 from rfl, s0_nf]
  simp only [List.zipIdx_cons, List.zipIdx_nil, List.map_cons, List.map_nil, Nat.reduceAdd, iL]
  repeat' first | refine c_seq ?_ | refine c_reg' rfl fun K E hK hE => ?_ | (refine r_opN fun κ η => ?_; simp only [go_sem, Nat.reduceLT, Nat.reduceEqDiff, Nat.reduceAdd, Nat.reduceMul, Nat.reduceLeDiff, Nat.le_refl, reduceIte, reduceCtorEq]; refine η _ ?_; clear η κ) | (refine r_nil (hK _ ?_); clear hE hK E K) | refine q_seq ?_
  refine r_opN fun κ η => ?_; simp only [go_sem, Nat.reduceLT, Nat.reduceEqDiff, Nat.reduceAdd, Nat.reduceMul, Nat.reduceLeDiff, Nat.le_refl, reduceIte, reduceCtorEq]; refine ⟨_, h, ?_⟩; simp only [go_sem, Nat.reduceLT, Nat.reduceEqDiff, Nat.reduceAdd, Nat.reduceMul, Nat.reduceLeDiff, Nat.le_refl, reduceIte, reduceCtorEq]; refine η _ ?_; clear η κ
  repeat' first | (refine r_opN fun κ η => ?_; simp only [go_sem, Nat.reduceLT, Nat.reduceEqDiff, Nat.reduceAdd, Nat.reduceMul, Nat.reduceLeDiff, Nat.le_refl, reduceIte, reduceCtorEq, e]; refine η _ ?_; clear η κ) | (refine r_nil (hK _ ?_); clear hE hK E K) | refine q_seq ?_ | refine c_ret ?_ | (refine q_ret ?_; refine q_r1 ?_; simp only [go_sem, Nat.reduceLT, Nat.reduceEqDiff, Nat.reduceAdd, Nat.reduceMul, Nat.reduceLeDiff, Nat.le_refl, reduceIte, reduceCtorEq, e])
/-- each literal once -/
def dd (c : List Int) : List Int := c.foldl (fun l x => if x ∈ l then l else l ++ [x]) []
theorem dd_snoc (c : List Int) (x : Int) : dd (c ++ [x]) = if x ∈ dd c then dd c else dd c ++ [x] := by
  unfold dd
  rw [List.foldl_append]
  rfl
theorem dd_take {c : List Int} {k : Nat} {x : Int} (hx : c[k]? = some x) : dd (c.take (k + 1)) = if x ∈ dd (c.take k) then dd (c.take k) else dd (c.take k) ++ [x] := by
  rw [List.take_add_one, hx]
  exact dd_snoc _ _
theorem dd_fold (c : List Int) : ∀ l : List Int, l.Nodup → (∀ x, x ∈ c.foldl (fun l x => if x ∈ l then l else l ++ [x]) l ↔ x ∈ l ∨ x ∈ c) ∧ (c.foldl (fun l x => if x ∈ l then l else l ++ [x]) l).Nodup ∧ (c.foldl (fun l x => if x ∈ l then l else l ++ [x]) l).length ≤ l.length + c.length := by
  induction c with
  | nil => exact fun l hl => ⟨fun x => by simp, hl, Nat.le_refl _⟩
  | cons y c ih =>
    intro l hl
    rw [List.foldl_cons]
    by_cases h : y ∈ l
    · rw [if_pos h]
      obtain ⟨h1, h2, h3⟩ := ih l hl
      refine ⟨fun x => ?_, h2, by simp only [List.length_cons]; omega⟩
      rw [h1, List.mem_cons]
      exact ⟨fun e => e.imp id .inr, fun e => e.elim .inl fun e => e.elim (fun e => .inl (e ▸ h)) .inr⟩
    · rw [if_neg h]
      obtain ⟨h1, h2, h3⟩ := ih (l ++ [y]) (by
        rw [List.nodup_append]
        refine ⟨hl, by simp, fun a ha b hb => ?_⟩
        rw [List.mem_singleton.1 hb]
        rintro rfl
        exact h ha)
      refine ⟨fun x => ?_, h2, by simp only [List.length_cons, List.length_append, List.length_nil] at h3 ⊢; omega⟩
      rw [h1, List.mem_append, List.mem_singleton, List.mem_cons, or_assoc]
theorem dd_facts (c : List Int) : (∀ x, x ∈ dd c ↔ x ∈ c) ∧ (dd c).Nodup ∧ (dd c).length ≤ c.length := by
  obtain ⟨h1, h2, h3⟩ := dd_fold c [] List.nodup_nil
  exact ⟨fun x => (h1 x).trans (by simp), h2, by simpa [dd] using h3⟩
/-- the literals of a clause are told where it stands -/
structure Rg (p : Pv) (l : List Int) (n : Int) (q : Pv) : Prop where
  e : q = { p with hk := q.hk, hv := q.hv }
  nd : q.hk.Nodup
  hv : ∀ y, hasOf q y = hasOf p y ++ if y ∈ l then [n] else []
def regP (q : Pv) (x : Int) (n : Int) : Pv := { q with hk := if x ∈ q.hk then q.hk else q.hk ++ [x], hv := fun y => if y = x then hasOf q x ++ [n] else q.hv y }
theorem rg_step {p q : Pv} {l : List Int} {n x : Int} (h : Rg p l n q) (hx : x ∉ l) : Rg p (l ++ [x]) n (regP q x n) := by
  refine ⟨?_, ?_, fun y => ?_⟩
  · unfold regP
    rw [h.e]
  · show (if x ∈ q.hk then q.hk else q.hk ++ [x]).Nodup
    split
    · exact h.nd
    · rename_i hn
      rw [List.nodup_append]
      refine ⟨h.nd, by simp, fun a ha b hb => ?_⟩
      rw [List.mem_singleton.1 hb]
      rintro rfl
      exact hn ha
  · have hy := h.hv y
    by_cases e : y = x
    · subst e
      have : hasOf (regP q y n) y = hasOf q y ++ [n] := by
        show (if y ∈ (if y ∈ q.hk then q.hk else q.hk ++ [y]) then (if y = y then hasOf q y ++ [n] else q.hv y) else []) = _
        rw [if_pos rfl, if_pos]
        split
        · assumption
        · simp
      rw [this, hy, if_neg hx, if_pos (by simp), List.append_nil]
    · have h1 : hasOf (regP q x n) y = hasOf q y := by
        show (if y ∈ (if x ∈ q.hk then q.hk else q.hk ++ [x]) then (if y = x then hasOf q x ++ [n] else q.hv y) else []) = if y ∈ q.hk then q.hv y else []
        rw [if_neg e]
        have : y ∈ (if x ∈ q.hk then q.hk else q.hk ++ [x]) ↔ y ∈ q.hk := by
          split
          · exact Iff.rfl
          · rw [List.mem_append, List.mem_singleton]
            exact ⟨fun h => h.resolve_right e, .inl⟩
        simp only [this]
      have h2 : (y ∈ l ++ [x]) ↔ y ∈ l := by
        rw [List.mem_append, List.mem_singleton]
        exact ⟨fun h => h.resolve_right e, .inl⟩
      rw [h1, hy]
      simp only [h2]
theorem where_snoc (cs : List (List Int)) (c : List Int) (x : Int) : whereIs (cs ++ [c]) x = whereIs cs x ++ if x ∈ c then [(cs.length : Int)] else [] := by
  unfold whereIs
  rw [List.length_append, List.length_singleton, List.range_succ, List.filter_append, List.map_append]
  congr 1
  · congr 1
    refine List.filter_congr fun n hn => ?_
    rw [List.getD_eq_getElem?_getD, List.getD_eq_getElem?_getD, List.getElem?_append_left (List.mem_range.1 hn)]
  · rw [List.filter_cons, List.getD_eq_getElem?_getD, List.getElem?_append_right (Nat.le_refl _), Nat.sub_self]
    simp only [List.getElem?_cons_zero, Option.getD_some, List.filter_nil, decide_eq_true_eq]
    split <;> rfl
/-- a prover's memory but for what the calls turn -/
def FrA (o o' : Nat → O) : Prop := ∀ i, (i < 900 ∨ (1001 ≤ i ∧ i < 5000)) → o' i = o i
theorem FrA.refl (o : Nat → O) : FrA o o := fun _ _ => rfl
theorem FrA.trans {o o1 o2 : Nat → O} (h : FrA o o1) (k : FrA o1 o2) : FrA o o2 := fun i hi => (k i hi).trans (h i hi)
theorem Fr.toA {ids : List Nat} {o o' : Nat → O} (h : Fr ids o o') (hs : ∀ j ∈ ids, (900 ≤ j ∧ j < 1001) ∨ 5000 ≤ j) : FrA o o' := fun i hi => h i fun e => by have := hs i e; omega
end Go.Proofs.Ytfflfmpkjcomgaa
namespace Go.Proofs.Ytfflfmpkjcomgaa
open Go.RowKit
set_option maxRecDepth 100000
set_option linter.unusedSimpArgs false
variable (Hy : World → Prop)
attribute [local irreducible] runM runD cwp seqQ blkQ lpQ retQ asQ bdQ bdY retP
theorem hasM_put {l : List Int} {hg : Int → Nat} {y : Int} (hy : y ∈ l) (g : Nat) : putM (hasM l hg) (ky y) (.row (hid y) g) = hasM l fun z => if z = y then g else hg z := by
  unfold putM hasM
  rw [if_pos (List.mem_map.2 ⟨_, List.mem_map.2 ⟨y, hy, rfl⟩, rfl⟩), List.map_map]
  refine List.map_congr_left fun z _ => ?_
  show (if ky z = ky y then (ky y, A.row (hid y) g) else (ky z, A.row (hid z) (hg z))) = (ky z, A.row (hid z) (if z = y then g else hg z))
  by_cases e : z = y
  · subst e
    rw [if_pos rfl, if_pos rfl]
  · rw [if_neg fun h => e (ky_inj h), if_neg e]
theorem hasM_new {l : List Int} {hg : Int → Nat} {y : Int} (hy : y ∉ l) (g : Nat) : putM (hasM l hg) (ky y) (.row (hid y) g) = hasM (l ++ [y]) fun z => if z = y then g else hg z := by
  unfold putM hasM
  rw [if_neg, List.map_append]
  · congr 1
    · refine List.map_congr_left fun z hz => ?_
      show (ky z, A.row (hid z) (hg z)) = (ky z, A.row (hid z) (if z = y then g else hg z))
      rw [if_neg fun e : z = y => hy (e ▸ hz)]
    · show [(ky y, A.row (hid y) g)] = [(ky y, A.row (hid y) (if y = y then g else hg y))]
      rw [if_pos rfl]
  · intro hm
    obtain ⟨p, hp, he⟩ := List.mem_map.1 hm
    obtain ⟨z, hz, rfl⟩ := List.mem_map.1 hp
    exact hy (ky_inj he ▸ hz)
theorem Prv.reg {o o' : Nat → O} {p : Pv} {g1 g2 g5 : Nat} {hg : Int → Nat} (hP : Prv o p g1 g2 g5 hg) {y n : Int} {g : Nat} (h3 : o' 903 = ⟨1, .map (.int .i64) (hasM (regP p y n).hk fun z => if z = y then g else hg z)⟩) (hr : o' (hid y) = ⟨g, .row 3 1 ((hasOf p y).map (fun n => [.i .i64 n]) ++ [[.i .i64 n]])⟩) (h : ∀ i, i = 900 ∨ i = 901 ∨ i = 902 ∨ i = 904 ∨ i = 905 ∨ (5000 ≤ i ∧ i ≠ hid y) → o' i = o i) : Prv o' (regP p y n) g1 g2 g5 (fun z => if z = y then g else hg z) := by
  obtain ⟨k1, k2, k3, k4, k5, k6, k7⟩ := hP
  refine ⟨by rw [h _ (by omega)]; exact k1, by rw [h _ (by omega)]; exact k2, by rw [h _ (by omega)]; exact k3, h3, fun x hx => ?_, by rw [h _ (by omega)]; exact k6, by rw [h _ (by omega)]; exact k7⟩
  show _ = (⟨if x = y then g else hg x, .row 3 1 ((if x = y then hasOf p y ++ [n] else p.hv x).map fun n => [.i .i64 n])⟩ : O)
  by_cases e : x = y
  · subst e
    rw [if_pos rfl, if_pos rfl, hr, List.map_append]
    rfl
  · rw [if_neg e, if_neg e, h _ (.inr (.inr (.inr (.inr (.inr ⟨hid_ge x, fun h => e (hid_inj h)⟩)))))]
    refine k5 x ?_
    have hx : x ∈ (if y ∈ p.hk then p.hk else p.hk ++ [y]) := hx
    split at hx
    · exact hx
    · rcases List.mem_append.1 hx with h | h
      · exact h
      · exact absurd (List.mem_singleton.1 h) e
theorem Stl.flat {o : Nat → O} {id : Nat} {e : TypeId} {z : Nat} {l : List (List T)} (hk : (o id).k = .rowA e z (l.map fun c => c.map A.t)) : Stl o (ob1 o id (.row e z l)) :=
  Stl.ch (fun ι => by unfold mb; rw [ob1_self, hk]) (fun B w D ι hob => by
    have h := hob id
    rw [hk] at h
    obtain ⟨h1, xs, h2, h3⟩ := h
    refine ⟨fun c hc => by have := h1 (c.map A.t) (List.mem_map.2 ⟨c, hc, rfl⟩); simpa using this, xs, by rw [List.length_map] at h2; exact h2, fun j y hy => ?_⟩
    have e1 : ((l.map fun c => c.map A.t).flatten)[j]? = some (.t y) := by
      rw [← List.map_flatten, List.getElem?_map, hy]
      rfl
    obtain ⟨c, c1, c2, c3⟩ := h3 j _ e1
    exact ⟨c, c1, c2, c3.dat⟩)
/-- a row of rows whose last is an own one is settled -/
theorem q_flatR {n : Nat} {F : Nat → A} {G0 : Nat → O} {sl : List (Nat × A)} {ob : List (Nat × O)} {N : S → Prop} {Q : Exit → S → Prop} {id r g k z : Nat} {ty ty' : TypeId} {m l : List (List T)} (h1 : (nf n F G0 sl ob).o id = ⟨g, .rowA ty 1 ((m.map fun c => c.map A.t) ++ [[.row r k]])⟩) (h2 : (nf n F G0 sl ob).o r = ⟨k, .row ty' z l⟩) (hne : id ≠ r)
    (h : ∀ o', o' id = ⟨g, .row ty 1 (m ++ [[.sl l]])⟩ → (∀ i, i ≠ id → i ≠ r → o' i = (nf n F G0 sl ob).o i) → N (nf n F o' sl [])) : seqQ N Q .normal (nf n F G0 sl ob) := by
  revert h1 h2 h
  generalize ho : (nf n F G0 sl ob).o = o
  intro h1 h2 h
  have s1 : Stl o (ob1 o r (.ro l)) := Stl.ro (by rw [h2])
  have e1 : ob1 o r (.ro l) id = o id := ob1_other hne
  have e2 : ob1 o r (.ro l) r = ⟨k, .ro l⟩ := by rw [ob1_self, h2]
  have s2 := Stl.last (o := ob1 o r (.ro l)) (id := id) (r := r) (g := k) (e := ty) (l := l) (m := m.map fun c => c.map A.t) (by rw [e1, h1]) (by rw [e2]) (by rw [e2])
  have s3 := Stl.flat (o := ob1 (ob1 o r (.ro l)) id (.rowA ty 1 ((m.map fun c => c.map A.t) ++ [[.t (.sl l)]]))) (id := id) (e := ty) (z := 1) (l := m ++ [[.sl l]]) (by rw [ob1_self, List.map_append]; rfl)
  have st := s1.trans (s2.trans s3)
  have f1 : ob1 (ob1 (ob1 o r (.ro l)) id (.rowA ty 1 ((m.map fun c => c.map A.t) ++ [[.t (.sl l)]]))) id (.row ty 1 (m ++ [[.sl l]])) id = ⟨g, .row ty 1 (m ++ [[.sl l]])⟩ := by rw [ob1_self, ob1_self, e1, h1]
  have f2 : ∀ i, i ≠ id → i ≠ r → ob1 (ob1 (ob1 o r (.ro l)) id (.rowA ty 1 ((m.map fun c => c.map A.t) ++ [[.t (.sl l)]]))) id (.row ty 1 (m ++ [[.sl l]])) i = o i := fun i hi hr => by rw [ob1_other hi, ob1_other hi, ob1_other hr]
  generalize ob1 (ob1 (ob1 o r (.ro l)) id (.rowA ty 1 ((m.map fun c => c.map A.t) ++ [[.t (.sl l)]]))) id (.row ty 1 (m ++ [[.sl l]])) = o' at st f1 f2
  exact q_seqS (ho.symm ▸ st) (h o' f1 f2)
theorem cnt_app (t l : List Int) (y : Int) : cnt t (l ++ [y]) = cnt t l + if 0 - y ∈ t then 0 else 1 := by
  unfold cnt
  rw [List.filter_append, List.length_append, List.filter_cons]
  by_cases h : 0 - y ∈ t
  · rw [decide_eq_true h, if_pos h]
    rfl
  · rw [decide_eq_false h, if_neg h]
    rfl
theorem add_new {V : Int} {p q p1 : Pv} {c : List Int} (h : Cmp V p) (hl : ∀ x ∈ c, LitV V x) (hR : Rg p (dd c) p.cs.length q) (e : p1 = { q with cs := p.cs ++ [dd c], lf := p.lf ++ [(cnt p.tr (dd c) : Int)] }) :
    ∀ p2, ((cnt p.tr (dd c) ≤ 1 ∧ p2 = lastP p1 p.cs.length) ∨ (¬ cnt p.tr (dd c) ≤ 1 ∧ p2 = p1)) → Wf V p2 ∧ Sat p2 ∧ Snd p2 (fun _ => False) ∧ p2.cs = p.cs ++ [dd c] := by
  obtain ⟨hdm, hdn, _⟩ := dd_facts c
  obtain ⟨e0, hnd, hhv⟩ := hR
  have hw := h.w
  have htk : p.tr.take p.wn.toNat = p.tr := by rw [h.d, Int.toNat_natCast, List.take_length]
  have f1 : p1.cs = p.cs ++ [dd c] := by rw [e]
  have f2 : p1.tr = p.tr := by rw [e, e0]
  have f3 : p1.wn = p.wn := by rw [e, e0]
  have f4 : p1.lf = p.lf ++ [(cnt p.tr (dd c) : Int)] := by rw [e]
  have f5 : p1.hk = q.hk := by rw [e]
  have f6 : p1.hv = q.hv := by rw [e]
  have w1 : Wf V p1 := by
    refine ⟨?_, by rw [f5]; exact hnd, fun x => ?_, by rw [f2]; exact hw.tb, by rw [f2]; exact hw.tn, by rw [f2]; exact hw.tc, by rw [f3]; exact hw.w0, by rw [f3, f2]; exact hw.w1, ?_⟩
    · rw [f1]
      intro d hd
      rcases List.mem_append.1 hd with hd | hd
      · exact hw.cl d hd
      · rw [List.mem_singleton.1 hd]
        exact ⟨hdn, fun x hx => hl x ((hdm x).1 hx)⟩
    · have h1 : hasOf p1 x = hasOf q x := by unfold hasOf; rw [f5, f6]
      rw [h1, hhv, f1, where_snoc, hw.hv]
    · rw [f4, f1, f2, f3, List.map_append, htk, hw.lf, htk]
      rfl
  have n1 : Snd p1 (fun _ => False) := by
    refine ⟨fun x hx => ?_, fun hc => ?_⟩
    · rw [f2] at hx
      rw [f1]
      exact (h.n x hx).mono (fun c hc => ⟨c, List.mem_append_left _ hc, fun _ => Iff.rfl⟩) (fun _ e => e.elim)
    · have : p1.cf = p.cf := by rw [e, e0]
      rw [this, h.c] at hc
      cases hc
  have hs := h.s.resolve_left (by rw [h.c]; decide)
  rw [htk] at hs
  have hcn : p1.cs[p.cs.length]? = some (dd c) := by rw [f1, List.getElem?_append_right (Nat.le_refl _), Nat.sub_self]; rfl
  rintro p2 (⟨h1, rfl⟩ | ⟨h1, rfl⟩)
  · have he := last_ext p1 p.cs.length
    have hwt := last_wt w1.wt hcn (fun x hx => hl x ((hdm x).1 hx))
    have hsn := last_snd n1 hcn (t := p.tr) (fun y hy => by rw [f2]; exact hy) h1
    have hst := last_sat (p := p1) hcn
    obtain ⟨t, ht⟩ := he.tr
    have htk2 : (lastP p1 p.cs.length).tr.take (lastP p1 p.cs.length).wn.toNat = p.tr := by
      rw [ht, he.wn, f3, f2, h.d, Int.toNat_natCast, List.take_left]
    refine ⟨⟨by rw [he.cs]; exact w1.cl, by rw [he.hk]; exact w1.hk, fun x => ?_, hwt.tb, hwt.tn, hwt.tc, by rw [he.wn]; exact w1.w0, ?_, ?_⟩, ?_, hsn, he.cs.trans f1⟩
    · have := w1.hv x
      unfold hasOf at this ⊢
      rw [he.hk, he.hv, he.cs]
      exact this
    · have := w1.w1
      rw [he.wn, ht, List.length_append]
      omega
    · rw [htk2, he.lf, he.cs, w1.lf, f2, f3, htk]
    · rcases hst with hst | hst
      · exact .inl hst
      · right
        rw [htk2, he.cs, f1]
        intro d hd hd1
        rcases List.mem_append.1 hd with hd | hd
        · obtain ⟨y, y1, y2⟩ := hs d hd hd1
          exact ⟨y, y1, by rw [ht, f2]; exact List.mem_append_left _ y2⟩
        · rw [List.mem_singleton.1 hd]
          exact hst
  · refine ⟨w1, ?_, n1, f1⟩
    right
    rw [f3, f2, htk, f1]
    intro d hd hd1
    rcases List.mem_append.1 hd with hd | hd
    · exact hs d hd hd1
    · rw [List.mem_singleton.1 hd] at hd1
      exact absurd hd1 h1
set_option maxHeartbeats 4000000 in
theorem add_cm {V : Int} {o : Nat → O} {p : Pv} {g1 g2 g5 : Nat} {hg : Int → Nat} (c : List Int) (hV : 0 ≤ V ∧ V ≤ 20000) (hP : Prv o p g1 g2 g5 hg) (hst : p.cf = true ∨ Cmp V p) (hfit : p.cf = true ∨ (p.cs.length < 1000000 ∧ ∀ c ∈ p.cs, c.length ≤ 1000000)) (hl : ∀ x ∈ c, LitV V x) (hll : c.length ≤ 1000000) :
    Cm Try.prog Hy 46 [.ptr 900 1 0, .t (iL c)] o fun rs o' => rs = [] ∧ ∃ p' g1 g2 g5 hg, Prv o' p' g1 g2 g5 hg ∧ FrA o o' ∧ ((p'.cf = true ∧ ((p.cf = true ∧ p' = p) ∨ (Confl (p.cs ++ [dd c]) (fun _ => False) ∧ Wt V p'))) ∨ (p.cf = false ∧ Cmp V p' ∧ p'.cs = p.cs ++ [dd c])) := by
  have hbb := hP.b
  have hcc := hP.c
  by_cases hcf : p.cf = true
  · refine cm_of (cls := fun d => 920 + d) tt_ok follows_ Try.func46 rfl (by decide) (Nat.le_of_ble_eq_true rfl) ?_
    rw [show Try.f46.ntmps = 80 from rfl, s0_nf]
    simp only [List.zipIdx_cons, List.zipIdx_nil, List.map_cons, List.map_nil, Nat.reduceAdd, iL]
    repeat' first | refine c_seq ?_ | refine c_reg' rfl fun K E hK hE => ?_ | (refine r_opN fun κ η => ?_; simp only [go_sem, Nat.reduceLT, Nat.reduceEqDiff, Nat.reduceAdd, Nat.reduceMul, Nat.reduceLeDiff, Nat.le_refl, reduceIte, reduceCtorEq, hbb, hcf]; (repeat refine ⟨by omega, ?_⟩); refine η _ ?_; clear η κ) | (refine r_nil (hK _ ?_); clear hE hK E K) | refine q_seq ?_
    refine c_cond _ rfl (fun hq => ?_) (fun hq => (by cases hq))
    repeat' first | refine c_ret ?_ | refine q_seqR ?_ | (refine q_ret ?_; refine q_r0 ?_; simp only [go_sem, Nat.reduceLT, Nat.reduceEqDiff, Nat.reduceAdd, Nat.reduceMul, Nat.reduceLeDiff, Nat.le_refl, reduceIte, reduceCtorEq])
    exact ⟨p, g1, g2, g5, hg, hP, FrA.refl _, .inl ⟨hcf, .inl ⟨hcf, rfl⟩⟩⟩
  have hcmp := hst.resolve_left hcf
  have hfit := hfit.resolve_left hcf
  have hcff := hcmp.c
  have htl := lits_len hcmp.w.tn hcmp.w.tb hV.1
  have hmR := mlawR
  obtain ⟨hdm, hdn, hdl⟩ := dd_facts c
  refine cm_of (cls := fun d => 920 + d) tt_ok follows_ Try.func46 rfl (by decide) (Nat.le_of_ble_eq_true rfl) ?_
  rw [show Try.f46.ntmps = 80 from rfl, s0_nf]
  simp only [List.zipIdx_cons, List.zipIdx_nil, List.map_cons, List.map_nil, Nat.reduceAdd, iL]
  repeat' first | refine c_seq ?_ | refine c_reg' rfl fun K E hK hE => ?_ | (refine r_opN fun κ η => ?_; simp only [go_sem, Nat.reduceLT, Nat.reduceEqDiff, Nat.reduceAdd, Nat.reduceMul, Nat.reduceLeDiff, Nat.le_refl, reduceIte, reduceCtorEq, hbb, hcff]; (repeat refine ⟨by omega, ?_⟩); refine η _ ?_; clear η κ) | (refine r_nil (hK _ ?_); clear hE hK E K) | refine q_seq ?_
  refine c_cond _ rfl (fun hq => (by cases hq)) (fun hq => ?_)
  repeat' first | refine c_seq ?_ | refine c_block ?_ | refine c_reg' rfl fun K E hK hE => ?_ | (refine r_opN fun κ η => ?_; simp only [go_sem, Nat.reduceLT, Nat.reduceEqDiff, Nat.reduceAdd, Nat.reduceMul, Nat.reduceLeDiff, Nat.le_refl, reduceIte, reduceCtorEq, hbb, hcc]; (repeat refine ⟨by omega, ?_⟩); refine η _ ?_; clear η κ) | (refine r_nil (hK _ ?_); clear hE hK E K) | refine q_seq ?_ | refine c_skip ?_
  refine c_loop (fun m s' => ∃ k F oc x q hg, m = c.length - k ∧ k ≤ c.length ∧ s' = nf 80 F oc [(0, .ptr 900 1 0), (4, .t (.i .i64 p.cs.length)), (5, x), (6, .t (.i .i64 (cnt p.tr (dd (c.take k))))), (18, .t (iL c)), (19, .t (.i .i64 c.length)), (20, .t (.i .i64 (k : Nat)))] [] ∧ ((dd (c.take k) = [] ∧ x = .nilS) ∨ ∃ n, x = .row 950 n ∧ oc 950 = ⟨n, .row 3 1 ((dd (c.take k)).map fun x => [.i .i64 x])⟩) ∧ FrA o oc ∧ Prv oc q g1 g2 g5 hg ∧ Rg p (dd (c.take k)) p.cs.length q) c.length ?_ ?_
  · exact ⟨0, _, _, _, p, hg, by omega, by omega, nf_of rfl ⟨rfl, rfl, rfl, rfl, rfl, rfl, rfl, trivial⟩ trivial, .inl ⟨rfl, rfl⟩, FrA.refl _, hP, rfl, hcmp.w.hk, fun y => (List.append_nil _).symm⟩
  clear hP hbb hcc hst hg
  rintro m s' ⟨k, F, oc, x, q, hg, rfl, hk, rfl, hx, hF, hP, hR⟩
  simp only [iL]
  have hq1 : q.tr = p.tr := by rw [hR.e]
  have hq2 : q.cs = p.cs := by rw [hR.e]
  have hq3 : q.lf = p.lf := by rw [hR.e]
  have hq4 : q.wn = p.wn := by rw [hR.e]
  have hq5 : q.cf = p.cf := by rw [hR.e]
  repeat' first | refine c_seq ?_ | refine c_reg' rfl fun K E hK hE => ?_ | (refine r_opN fun κ η => ?_; simp only [go_sem, Nat.reduceLT, Nat.reduceEqDiff, Nat.reduceAdd, Nat.reduceMul, Nat.reduceLeDiff, Nat.le_refl, reduceIte, reduceCtorEq]; refine η _ ?_; clear η κ) | (refine r_nil (hK _ ?_); clear hE hK E K) | refine q_seq ?_
  refine c_cond _ rfl (fun hq => ?_) (fun hq => ?_)
  · simp only [decide_eq_true_eq] at hq
    obtain ⟨y, hy⟩ : ∃ y, c[k]? = some y := ⟨_, List.getElem?_eq_getElem (by omega)⟩
    have hly := hl y (List.mem_of_getElem? hy)
    have hw : IntKind.wrap .i64 (0 - y) = 0 - y := inR_wrap (by simp only [inR]; unfold LitV at hly; omega)
    have htk := dd_take hy
    obtain ⟨_, hdn2, hdl2⟩ := dd_facts (c.take k)
    rw [List.length_take] at hdl2
    have hcon := ccontains_ct Hy (dd (c.take k)) y (by omega)
    simp only [iL] at hcon
    generalize dd (c.take k) = w at hx htk hdn2 hdl2 hcon hR
    have hbb := hP.b
    have hhh := hP.h
    have hky := kyok (x := y) (by unfold LitV at hly; unfold Lit64; omega)
    have hget := hasM_get q.hk hg y
    simp only [ky] at hky hget
    have hidn := hid_ne y (k := 950) (by decide)
    have hidn2 := hid_ne y (k := 963) (by decide)
    have hidn3 := hid_ne y (k := 949) (by decide)
    have hidn4 := hid_ne y (k := 903) (by decide)
    have hidn5 := hid_ne2 y (k := 903) (by decide)
    have hk4 : 0 - y ∈ (regP q y p.cs.length).tr ↔ 0 - y ∈ p.tr := by
      show 0 - y ∈ q.tr ↔ _
      rw [hq1]
    have hap := cnt_app p.tr w y
    have hlit : Lit64 (0 - y) := by unfold LitV at hly; unfold Lit64; omega
    have hstep := fun h => rg_step (x := y) hR h
    have hqv := hR.hv y
    rw [hcmp.w.hv y] at hqv
    have hwl := where_len p.cs y
    have hcl : cnt p.tr w ≤ w.length := cnt_le
    have hge := hid_ge y
    have hidn := hid_ne y (k := 950) (by decide)
    have hidn2 := hid_ne y (k := 963) (by decide)
    have hidn3 := hid_ne y (k := 949) (by decide)
    have hidn4 := hid_ne y (k := 903) (by decide)
    have hidn5 := hid_ne2 y (k := 903) (by decide)
    have hk4 : 0 - y ∈ (regP q y p.cs.length).tr ↔ 0 - y ∈ p.tr := by
      show 0 - y ∈ q.tr ↔ _
      rw [hq1]
    have hap := cnt_app p.tr w y
    have hlit : Lit64 (0 - y) := by unfold LitV at hly; unfold Lit64; omega
    have hstep := fun h => rg_step (x := y) hR h
    have hqv := hR.hv y
    rw [hcmp.w.hv y] at hqv
    have hwl := where_len p.cs y
    have hcl : cnt p.tr w ≤ w.length := cnt_le
    have hge := hid_ge y
    have hidn := hid_ne y (k := 950) (by decide)
    have hidn2 := hid_ne y (k := 963) (by decide)
    have hidn3 := hid_ne y (k := 949) (by decide)
    have hidn4 := hid_ne y (k := 903) (by decide)
    have hidn5 := hid_ne2 y (k := 903) (by decide)
    have hk4 : 0 - y ∈ (regP q y p.cs.length).tr ↔ 0 - y ∈ p.tr := by
      show 0 - y ∈ q.tr ↔ _
      rw [hq1]
    have hap := cnt_app p.tr w y
    have hlit : Lit64 (0 - y) := by unfold LitV at hly; unfold Lit64; omega
    have hstep := fun h => rg_step (x := y) hR h
    have hqv := hR.hv y
    rw [hcmp.w.hv y] at hqv
    have hwl := where_len p.cs y
    have hcl : cnt p.tr w ≤ w.length := cnt_le
    have hge := hid_ge y
    have hidn := hid_ne y (k := 950) (by decide)
    have hidn2 := hid_ne y (k := 963) (by decide)
    have hidn3 := hid_ne y (k := 949) (by decide)
    have hidn4 := hid_ne y (k := 903) (by decide)
    have hidn5 := hid_ne2 y (k := 903) (by decide)
    have hk4 : 0 - y ∈ (regP q y p.cs.length).tr ↔ 0 - y ∈ p.tr := by
      show 0 - y ∈ q.tr ↔ _
      rw [hq1]
    have hap := cnt_app p.tr w y
    have hlit : Lit64 (0 - y) := by unfold LitV at hly; unfold Lit64; omega
    have hstep := fun h => rg_step (x := y) hR h
    have hqv := hR.hv y
    rw [hcmp.w.hv y] at hqv
    have hwl := where_len p.cs y
    have hcl : cnt p.tr w ≤ w.length := cnt_le
    have hge := hid_ge y
    have hidn := hid_ne y (k := 950) (by decide)
    have hidn2 := hid_ne y (k := 963) (by decide)
    have hidn3 := hid_ne y (k := 949) (by decide)
    have hidn4 := hid_ne y (k := 903) (by decide)
    have hidn5 := hid_ne2 y (k := 903) (by decide)
    have hk4 : 0 - y ∈ (regP q y p.cs.length).tr ↔ 0 - y ∈ p.tr := by
      show 0 - y ∈ q.tr ↔ _
      rw [hq1]
    have hap := cnt_app p.tr w y
    have hlit : Lit64 (0 - y) := by unfold LitV at hly; unfold Lit64; omega
    have hstep := fun h => rg_step (x := y) hR h
    have hqv := hR.hv y
    rw [hcmp.w.hv y] at hqv
    have hwl := where_len p.cs y
    have hcl : cnt p.tr w ≤ w.length := cnt_le
    have hge := hid_ge y
    have hidn := hid_ne y (k := 950) (by decide)
    have hidn2 := hid_ne y (k := 963) (by decide)
    have hidn3 := hid_ne y (k := 949) (by decide)
    have hidn4 := hid_ne y (k := 903) (by decide)
    have hidn5 := hid_ne2 y (k := 903) (by decide)
    have hk4 : 0 - y ∈ (regP q y p.cs.length).tr ↔ 0 - y ∈ p.tr := by
      show 0 - y ∈ q.tr ↔ _
      rw [hq1]
    have hap := cnt_app p.tr w y
    have hlit : Lit64 (0 - y) := by unfold LitV at hly; unfold Lit64; omega
    have hstep := fun h => rg_step (x := y) hR h
    have hqv := hR.hv y
    rw [hcmp.w.hv y] at hqv
    have hwl := where_len p.cs y
    have hcl : cnt p.tr w ≤ w.length := cnt_le
    have hge := hid_ge y
    have hidn := hid_ne y (k := 950) (by decide)
    have hidn2 := hid_ne y (k := 963) (by decide)
    have hidn3 := hid_ne y (k := 949) (by decide)
    have hidn4 := hid_ne y (k := 903) (by decide)
    have hidn5 := hid_ne2 y (k := 903) (by decide)
    have hk4 : 0 - y ∈ (regP q y p.cs.length).tr ↔ 0 - y ∈ p.tr := by
      show 0 - y ∈ q.tr ↔ _
      rw [hq1]
    have hap := cnt_app p.tr w y
    have hlit : Lit64 (0 - y) := by unfold LitV at hly; unfold Lit64; omega
    have hstep := fun h => rg_step (x := y) hR h
    have hqv := hR.hv y
    rw [hcmp.w.hv y] at hqv
    have hwl := where_len p.cs y
    have hcl : cnt p.tr w ≤ w.length := cnt_le
    have hge := hid_ge y
    have hidn := hid_ne y (k := 950) (by decide)
    have hidn2 := hid_ne y (k := 963) (by decide)
    have hidn3 := hid_ne y (k := 949) (by decide)
    have hidn4 := hid_ne y (k := 903) (by decide)
    have hidn5 := hid_ne2 y (k := 903) (by decide)
    have hk4 : 0 - y ∈ (regP q y p.cs.length).tr ↔ 0 - y ∈ p.tr := by
      show 0 - y ∈ q.tr ↔ _
      rw [hq1]
    have hap := cnt_app p.tr w y
    have hlit : Lit64 (0 - y) := by unfold LitV at hly; unfold Lit64; omega
    have hstep := fun h => rg_step (x := y) hR h
    have hqv := hR.hv y
    rw [hcmp.w.hv y] at hqv
    have hwl := where_len p.cs y
    have hcl : cnt p.tr w ≤ w.length := cnt_le
    rcases hx with ⟨rfl, rfl⟩ | ⟨n, rfl, hn⟩
    · simp only [List.map_nil, List.not_mem_nil, decide_false] at hcon htk
      have hnx := hstep (by simp)
      rw [if_neg (by simp)] at htk hqv
      repeat' first | refine c_seq ?_ | refine c_block ?_ | refine c_reg' rfl fun K E hK hE => ?_ | (refine r_opN fun κ η => ?_; simp only [go_sem, Nat.reduceLT, Nat.reduceEqDiff, Nat.reduceAdd, Nat.reduceMul, Nat.reduceLeDiff, Nat.le_refl, reduceIte, reduceCtorEq, hy]; (repeat refine ⟨by omega, ?_⟩); refine η _ ?_; clear η κ) | (refine r_nil (hK _ ?_); clear hE hK E K) | refine q_seq ?_ | refine c_skip ?_
      refine r_opN fun κ η => ?_; simp only [go_sem, Nat.reduceLT, Nat.reduceEqDiff, Nat.reduceAdd, Nat.reduceMul, Nat.reduceLeDiff, Nat.le_refl, reduceIte, reduceCtorEq]; refine ⟨_, hcon, ?_⟩; simp only [go_sem, Nat.reduceLT, Nat.reduceEqDiff, Nat.reduceAdd, Nat.reduceMul, Nat.reduceLeDiff, Nat.le_refl, reduceIte, reduceCtorEq]; refine η _ ?_; clear η κ
      repeat' first | (refine r_nil (hK _ ?_); clear hE hK E K) | refine q_seq ?_
      refine c_cond _ rfl (fun hq => (by cases hq)) (fun hq => ?_)
      repeat' first | refine c_seq ?_ | refine c_reg' rfl fun K E hK hE => ?_ | refine c_draw' rfl (by kernel_rfl) fun K E hK hE => ?_ | ((first | refine r_opN fun κ η => ?_ | refine d_opN (by kernel_rfl) fun κ η => ?_); simp only [go_sem, Nat.reduceLT, Nat.reduceEqDiff, Nat.reduceAdd, Nat.reduceMul, Nat.reduceLeDiff, Nat.le_refl, reduceIte, reduceCtorEq, hbb, hhh]; (repeat refine ⟨by omega, ?_⟩); refine η _ ?_; clear η κ) | (refine r_nil (hK _ ?_); clear hE hK E K) | refine q_seq ?_ | refine c_skip ?_
      by_cases hin : y ∈ q.hk
      · rw [if_pos hin] at hget
        have hrr := hP.r _ hin
        have hput := hasM_put hin (hg := hg) (hg y + 1)
        have hhas : hasOf q y = q.hv y := if_pos hin
        have hks : (regP q y p.cs.length).hk = q.hk := if_pos hin
        have hqvl : (q.hv y).length ≤ p.cs.length := by rw [← hhas, hqv]; simp; omega
        simp only [ky] at hput
        ((first | refine r_opN fun κ η => ?_ | refine d_opN (by kernel_rfl) fun κ η => ?_); simp only [go_sem, Nat.reduceLT, Nat.reduceEqDiff, Nat.reduceAdd, Nat.reduceMul, Nat.reduceLeDiff, Nat.le_refl, reduceIte, reduceCtorEq, hhh, hget]; (repeat refine ⟨by omega, ?_⟩); refine η _ ?_; clear η κ)
        ((first | refine r_opN fun κ η => ?_ | refine d_opN (by kernel_rfl) fun κ η => ?_); simp only [go_sem, Nat.reduceLT, Nat.reduceEqDiff, Nat.reduceAdd, Nat.reduceMul, Nat.reduceLeDiff, Nat.le_refl, reduceIte, reduceCtorEq]; (repeat refine ⟨by omega, ?_⟩); refine η _ ?_; clear η κ)
        ((first | refine r_opN fun κ η => ?_ | refine d_opN (by kernel_rfl) fun κ η => ?_); simp only [go_sem, Nat.reduceLT, Nat.reduceEqDiff, Nat.reduceAdd, Nat.reduceMul, Nat.reduceLeDiff, Nat.le_refl, reduceIte, reduceCtorEq]; (repeat refine ⟨by omega, ?_⟩); refine η _ ?_; clear η κ)
        ((first | refine r_opN fun κ η => ?_ | refine d_opN (by kernel_rfl) fun κ η => ?_); simp only [go_sem, Nat.reduceLT, Nat.reduceEqDiff, Nat.reduceAdd, Nat.reduceMul, Nat.reduceLeDiff, Nat.le_refl, reduceIte, reduceCtorEq, hhh, hrr, hidn, hidn2, hidn3]; (repeat refine ⟨by omega, ?_⟩); refine η _ ?_; clear η κ)
        ((first | refine r_opN fun κ η => ?_ | refine d_opN (by kernel_rfl) fun κ η => ?_); simp only [go_sem, Nat.reduceLT, Nat.reduceEqDiff, Nat.reduceAdd, Nat.reduceMul, Nat.reduceLeDiff, Nat.le_refl, reduceIte, reduceCtorEq, hhh, hrr, hidn, hidn2, hidn3, hidn4, hidn5, hput]; (repeat refine ⟨by omega, ?_⟩); refine η _ ?_; clear η κ)
        repeat' first | refine c_seq ?_ | refine c_reg' rfl fun K E hK hE => ?_ | (refine r_opN fun κ η => ?_; simp only [go_sem, Nat.reduceLT, Nat.reduceEqDiff, Nat.reduceAdd, Nat.reduceMul, Nat.reduceLeDiff, Nat.le_refl, reduceIte, reduceCtorEq, hw]; refine η _ ?_; clear η κ) | refine q_seq ?_ | (refine d_nil (hK _ ?_); clear hE hK E K)
        refine r_call fun κ η => ?_; simp only [go_sem, Nat.reduceLT, Nat.reduceEqDiff, Nat.reduceAdd, Nat.reduceMul, Nat.reduceLeDiff, Nat.le_refl, reduceIte, reduceCtorEq]; refine ⟨_, is_cm Hy (p := regP q y p.cs.length) (by exact Prv.reg hP (by rw [hks]; rfl) (by rw [hhas]; simp [nf, lookO, hidn, hidn2, hidn3, hidn4, hidn5]) (fun i hi => lookO_other (by simp; omega))) (0 - y) hlit, ?_⟩; rintro _ o2 ⟨rfl, hF2⟩; simp only [go_sem, Nat.reduceLT, Nat.reduceEqDiff, Nat.reduceAdd, Nat.reduceMul, Nat.reduceLeDiff, Nat.le_refl, reduceIte, reduceCtorEq]; refine η _ ?_; clear η κ
        have hP2 : ∃ hg', Prv o2 (regP q y p.cs.length) g1 g2 g5 hg' := by
          refine ⟨fun z => if z = y then hg y + 1 else hg z, Prv.fr ?_ hF2 (by simp)⟩
          exact Prv.reg hP (by rw [hks]; rfl) (by rw [hhas]; simp [nf, lookO, hidn, hidn2, hidn3, hidn4, hidn5]) (fun i hi => lookO_other (by simp; omega))
        have hFA := hF2.toA (by simp)
        have h950 := hF2 950 (by simp)
        simp only [hk4]
        by_cases c1 : 0 - y ∈ p.tr
        · rw [decide_eq_true c1]
          rw [if_pos c1, Nat.add_zero] at hap
          obtain ⟨hg', hP2⟩ := hP2
          repeat' first | (refine r_opN fun κ η => ?_; simp only [go_sem, Nat.reduceLT, Nat.reduceEqDiff, Nat.reduceAdd, Nat.reduceMul, Nat.reduceLeDiff, Nat.le_refl, reduceIte, reduceCtorEq]; refine η _ ?_; clear η κ) | (refine r_nil (hK _ ?_); clear hE hK E K) | refine q_seq ?_
          refine c_cond _ rfl (fun hq => (by cases hq)) (fun hq => ?_)
          repeat' first | refine c_reg' rfl fun K E hK hE => ?_ | (refine r_opN fun κ η => ?_; simp only [go_sem, Nat.reduceLT, Nat.reduceEqDiff, Nat.reduceAdd, Nat.reduceMul, Nat.reduceLeDiff, Nat.le_refl, reduceIte, reduceCtorEq]; (repeat refine ⟨by omega, ?_⟩); refine η _ ?_; clear η κ) | (refine r_nil (hK _ ?_); clear hE hK E K) | refine q_seq ?_ | refine q_blk ?_ | refine c_skip ?_ | refine q_lpN ?_
          exact ⟨c.length - (k + 1), by omega, k + 1, _, _, _, regP q y p.cs.length, hg', rfl, by omega, by rw [htk, hap]; exact nf_of rfl ⟨rfl, rfl, rfl, rfl, rfl, rfl, rfl, trivial⟩ trivial, .inr ⟨_, rfl, by rw [htk]; exact h950.trans (by simp [nf, lookO, hidn, hidn2, hidn3, hidn4, hidn5, hid_ne2])⟩, (hF.trans (Fr.toA (ids := [903, hid y, 963, 950, 949]) (fr_nf (by simp)) (by simp; omega))).trans hFA, hP2, by rw [htk]; exact hnx⟩
        · rw [decide_eq_false c1]
          rw [if_neg c1] at hap
          obtain ⟨hg', hP2⟩ := hP2
          repeat' first | (refine r_opN fun κ η => ?_; simp only [go_sem, Nat.reduceLT, Nat.reduceEqDiff, Nat.reduceAdd, Nat.reduceMul, Nat.reduceLeDiff, Nat.le_refl, reduceIte, reduceCtorEq]; refine η _ ?_; clear η κ) | (refine r_nil (hK _ ?_); clear hE hK E K) | refine q_seq ?_
          refine c_cond _ rfl (fun hq => ?_) (fun hq => (by cases hq))
          repeat' first | refine c_reg' rfl fun K E hK hE => ?_ | (refine r_opN fun κ η => ?_; simp only [go_sem, Nat.reduceLT, Nat.reduceEqDiff, Nat.reduceAdd, Nat.reduceMul, Nat.reduceLeDiff, Nat.le_refl, reduceIte, reduceCtorEq]; (repeat refine ⟨by omega, ?_⟩); refine η _ ?_; clear η κ) | (refine r_nil (hK _ ?_); clear hE hK E K) | refine q_seq ?_ | refine q_blk ?_ | refine q_lpN ?_
          exact ⟨c.length - (k + 1), by omega, k + 1, _, _, _, regP q y p.cs.length, hg', rfl, by omega, by rw [htk, hap]; exact nf_of rfl ⟨rfl, rfl, rfl, rfl, rfl, rfl, rfl, trivial⟩ trivial, .inr ⟨_, rfl, by rw [htk]; exact h950.trans (by simp [nf, lookO, hidn, hidn2, hidn3, hidn4, hidn5, hid_ne2])⟩, (hF.trans (Fr.toA (ids := [903, hid y, 963, 950, 949]) (fr_nf (by simp)) (by simp; omega))).trans hFA, hP2, by rw [htk]; exact hnx⟩
      · rw [if_neg hin] at hget
        have hput := hasM_new hin (hg := hg)
        have hhas : hasOf q y = [] := if_neg hin
        have hks : (regP q y p.cs.length).hk = q.hk ++ [y] := if_neg hin
        simp only [ky] at hput
        ((first | refine r_opN fun κ η => ?_ | refine d_opN (by kernel_rfl) fun κ η => ?_); simp only [go_sem, Nat.reduceLT, Nat.reduceEqDiff, Nat.reduceAdd, Nat.reduceMul, Nat.reduceLeDiff, Nat.le_refl, reduceIte, reduceCtorEq, hhh, hget]; (repeat refine ⟨by omega, ?_⟩); refine η _ ?_; clear η κ)
        ((first | refine r_opN fun κ η => ?_ | refine d_opN (by kernel_rfl) fun κ η => ?_); simp only [go_sem, Nat.reduceLT, Nat.reduceEqDiff, Nat.reduceAdd, Nat.reduceMul, Nat.reduceLeDiff, Nat.le_refl, reduceIte, reduceCtorEq]; (repeat refine ⟨by omega, ?_⟩); refine η _ ?_; clear η κ)
        ((first | refine r_opN fun κ η => ?_ | refine d_opN (by kernel_rfl) fun κ η => ?_); simp only [go_sem, Nat.reduceLT, Nat.reduceEqDiff, Nat.reduceAdd, Nat.reduceMul, Nat.reduceLeDiff, Nat.le_refl, reduceIte, reduceCtorEq]; (repeat refine ⟨by omega, ?_⟩); refine η _ ?_; clear η κ)
        (refine d_opC (fun _ => hid y) (by kernel_rfl) fun κ η => ?_; simp only [go_sem, Nat.reduceLT, Nat.reduceEqDiff, Nat.reduceAdd, Nat.reduceMul, Nat.reduceLeDiff, Nat.le_refl, reduceIte, reduceCtorEq, hidn, hidn2, hidn3]; (repeat refine ⟨by omega, ?_⟩); refine η _ ?_; clear η κ)
        ((first | refine r_opN fun κ η => ?_ | refine d_opN (by kernel_rfl) fun κ η => ?_); simp only [go_sem, Nat.reduceLT, Nat.reduceEqDiff, Nat.reduceAdd, Nat.reduceMul, Nat.reduceLeDiff, Nat.le_refl, reduceIte, reduceCtorEq, hhh, hidn, hidn2, hidn3, hidn4, hidn5, hput]; (repeat refine ⟨by omega, ?_⟩); refine η _ ?_; clear η κ)
        repeat' first | refine c_seq ?_ | refine c_reg' rfl fun K E hK hE => ?_ | (refine r_opN fun κ η => ?_; simp only [go_sem, Nat.reduceLT, Nat.reduceEqDiff, Nat.reduceAdd, Nat.reduceMul, Nat.reduceLeDiff, Nat.le_refl, reduceIte, reduceCtorEq, hw]; refine η _ ?_; clear η κ) | refine q_seq ?_ | (refine d_nil (hK _ ?_); clear hE hK E K)
        refine r_call fun κ η => ?_; simp only [go_sem, Nat.reduceLT, Nat.reduceEqDiff, Nat.reduceAdd, Nat.reduceMul, Nat.reduceLeDiff, Nat.le_refl, reduceIte, reduceCtorEq]; refine ⟨_, is_cm Hy (p := regP q y p.cs.length) (by exact Prv.reg hP (by rw [hks]; rfl) (by rw [hhas]; simp [nf, lookO, hidn, hidn2, hidn3, hidn4, hidn5]) (fun i hi => lookO_other (by simp; omega))) (0 - y) hlit, ?_⟩; rintro _ o2 ⟨rfl, hF2⟩; simp only [go_sem, Nat.reduceLT, Nat.reduceEqDiff, Nat.reduceAdd, Nat.reduceMul, Nat.reduceLeDiff, Nat.le_refl, reduceIte, reduceCtorEq]; refine η _ ?_; clear η κ
        have hP2 : ∃ hg', Prv o2 (regP q y p.cs.length) g1 g2 g5 hg' := by
          refine ⟨fun z => if z = y then (oc (hid y)).gen + 1 else hg z, Prv.fr ?_ hF2 (by simp)⟩
          exact Prv.reg hP (by rw [hks]; rfl) (by rw [hhas]; simp [nf, lookO, hidn, hidn2, hidn3, hidn4, hidn5]) (fun i hi => lookO_other (by simp; omega))
        have hFA := hF2.toA (by simp)
        have h950 := hF2 950 (by simp)
        simp only [hk4]
        by_cases c1 : 0 - y ∈ p.tr
        · rw [decide_eq_true c1]
          rw [if_pos c1, Nat.add_zero] at hap
          obtain ⟨hg', hP2⟩ := hP2
          repeat' first | (refine r_opN fun κ η => ?_; simp only [go_sem, Nat.reduceLT, Nat.reduceEqDiff, Nat.reduceAdd, Nat.reduceMul, Nat.reduceLeDiff, Nat.le_refl, reduceIte, reduceCtorEq]; refine η _ ?_; clear η κ) | (refine r_nil (hK _ ?_); clear hE hK E K) | refine q_seq ?_
          refine c_cond _ rfl (fun hq => (by cases hq)) (fun hq => ?_)
          repeat' first | refine c_reg' rfl fun K E hK hE => ?_ | (refine r_opN fun κ η => ?_; simp only [go_sem, Nat.reduceLT, Nat.reduceEqDiff, Nat.reduceAdd, Nat.reduceMul, Nat.reduceLeDiff, Nat.le_refl, reduceIte, reduceCtorEq]; (repeat refine ⟨by omega, ?_⟩); refine η _ ?_; clear η κ) | (refine r_nil (hK _ ?_); clear hE hK E K) | refine q_seq ?_ | refine q_blk ?_ | refine c_skip ?_ | refine q_lpN ?_
          exact ⟨c.length - (k + 1), by omega, k + 1, _, _, _, regP q y p.cs.length, hg', rfl, by omega, by rw [htk, hap]; exact nf_of rfl ⟨rfl, rfl, rfl, rfl, rfl, rfl, rfl, trivial⟩ trivial, .inr ⟨_, rfl, by rw [htk]; exact h950.trans (by simp [nf, lookO, hidn, hidn2, hidn3, hidn4, hidn5, hid_ne2])⟩, (hF.trans (Fr.toA (ids := [903, hid y, 963, 950, 949]) (fr_nf (by simp)) (by simp; omega))).trans hFA, hP2, by rw [htk]; exact hnx⟩
        · rw [decide_eq_false c1]
          rw [if_neg c1] at hap
          obtain ⟨hg', hP2⟩ := hP2
          repeat' first | (refine r_opN fun κ η => ?_; simp only [go_sem, Nat.reduceLT, Nat.reduceEqDiff, Nat.reduceAdd, Nat.reduceMul, Nat.reduceLeDiff, Nat.le_refl, reduceIte, reduceCtorEq]; refine η _ ?_; clear η κ) | (refine r_nil (hK _ ?_); clear hE hK E K) | refine q_seq ?_
          refine c_cond _ rfl (fun hq => ?_) (fun hq => (by cases hq))
          repeat' first | refine c_reg' rfl fun K E hK hE => ?_ | (refine r_opN fun κ η => ?_; simp only [go_sem, Nat.reduceLT, Nat.reduceEqDiff, Nat.reduceAdd, Nat.reduceMul, Nat.reduceLeDiff, Nat.le_refl, reduceIte, reduceCtorEq]; (repeat refine ⟨by omega, ?_⟩); refine η _ ?_; clear η κ) | (refine r_nil (hK _ ?_); clear hE hK E K) | refine q_seq ?_ | refine q_blk ?_ | refine q_lpN ?_
          exact ⟨c.length - (k + 1), by omega, k + 1, _, _, _, regP q y p.cs.length, hg', rfl, by omega, by rw [htk, hap]; exact nf_of rfl ⟨rfl, rfl, rfl, rfl, rfl, rfl, rfl, trivial⟩ trivial, .inr ⟨_, rfl, by rw [htk]; exact h950.trans (by simp [nf, lookO, hidn, hidn2, hidn3, hidn4, hidn5, hid_ne2])⟩, (hF.trans (Fr.toA (ids := [903, hid y, 963, 950, 949]) (fr_nf (by simp)) (by simp; omega))).trans hFA, hP2, by rw [htk]; exact hnx⟩
    · by_cases hyw : y ∈ w
      · rw [decide_eq_true hyw] at hcon
        rw [if_pos hyw] at htk
        repeat' first | refine c_seq ?_ | refine c_block ?_ | refine c_reg' rfl fun K E hK hE => ?_ | (refine r_opN fun κ η => ?_; simp only [go_sem, Nat.reduceLT, Nat.reduceEqDiff, Nat.reduceAdd, Nat.reduceMul, Nat.reduceLeDiff, Nat.le_refl, reduceIte, reduceCtorEq, hy]; (repeat refine ⟨by omega, ?_⟩); refine η _ ?_; clear η κ) | (refine r_nil (hK _ ?_); clear hE hK E K) | refine q_seq ?_ | refine c_skip ?_
        refine r_opN fun κ η => ?_; simp only [go_sem, Nat.reduceLT, Nat.reduceEqDiff, Nat.reduceAdd, Nat.reduceMul, Nat.reduceLeDiff, Nat.le_refl, reduceIte, reduceCtorEq, hn]; refine ⟨_, hcon, ?_⟩; simp only [go_sem, Nat.reduceLT, Nat.reduceEqDiff, Nat.reduceAdd, Nat.reduceMul, Nat.reduceLeDiff, Nat.le_refl, reduceIte, reduceCtorEq, hn]; refine η _ ?_; clear η κ
        repeat' first | (refine r_nil (hK _ ?_); clear hE hK E K) | refine q_seq ?_
        refine c_cond _ rfl (fun hq => ?_) (fun hq => (by cases hq))
        repeat' first | refine c_reg' rfl fun K E hK hE => ?_ | (refine r_opN fun κ η => ?_; simp only [go_sem, Nat.reduceLT, Nat.reduceEqDiff, Nat.reduceAdd, Nat.reduceMul, Nat.reduceLeDiff, Nat.le_refl, reduceIte, reduceCtorEq]; (repeat refine ⟨by omega, ?_⟩); refine η _ ?_; clear η κ) | (refine r_nil (hK _ ?_); clear hE hK E K) | refine q_seq ?_ | refine c_exit ?_ | refine q_seqE ?_ | refine q_blkHit ?_ | refine q_lpN ?_
        exact ⟨c.length - (k + 1), by omega, k + 1, _, _, _, q, hg, rfl, by omega, by rw [htk]; exact nf_of rfl ⟨rfl, rfl, rfl, rfl, rfl, rfl, rfl, trivial⟩ trivial, .inr ⟨_, rfl, by rw [htk]; exact hn⟩, hF, hP, by rw [htk]; exact hR⟩
      rw [decide_eq_false hyw] at hcon
      rw [if_neg hyw] at htk hqv
      have hnx := hstep hyw
      repeat' first | refine c_seq ?_ | refine c_block ?_ | refine c_reg' rfl fun K E hK hE => ?_ | (refine r_opN fun κ η => ?_; simp only [go_sem, Nat.reduceLT, Nat.reduceEqDiff, Nat.reduceAdd, Nat.reduceMul, Nat.reduceLeDiff, Nat.le_refl, reduceIte, reduceCtorEq, hy]; (repeat refine ⟨by omega, ?_⟩); refine η _ ?_; clear η κ) | (refine r_nil (hK _ ?_); clear hE hK E K) | refine q_seq ?_ | refine c_skip ?_
      refine r_opN fun κ η => ?_; simp only [go_sem, Nat.reduceLT, Nat.reduceEqDiff, Nat.reduceAdd, Nat.reduceMul, Nat.reduceLeDiff, Nat.le_refl, reduceIte, reduceCtorEq, hn]; refine ⟨_, hcon, ?_⟩; simp only [go_sem, Nat.reduceLT, Nat.reduceEqDiff, Nat.reduceAdd, Nat.reduceMul, Nat.reduceLeDiff, Nat.le_refl, reduceIte, reduceCtorEq, hn]; refine η _ ?_; clear η κ
      repeat' first | (refine r_nil (hK _ ?_); clear hE hK E K) | refine q_seq ?_
      refine c_cond _ rfl (fun hq => (by cases hq)) (fun hq => ?_)
      repeat' first | refine c_seq ?_ | refine c_reg' rfl fun K E hK hE => ?_ | refine c_draw' rfl (by kernel_rfl) fun K E hK hE => ?_ | ((first | refine r_opN fun κ η => ?_ | refine d_opN (by kernel_rfl) fun κ η => ?_); simp only [go_sem, Nat.reduceLT, Nat.reduceEqDiff, Nat.reduceAdd, Nat.reduceMul, Nat.reduceLeDiff, Nat.le_refl, reduceIte, reduceCtorEq, hbb, hhh, hn]; (repeat refine ⟨by omega, ?_⟩); refine η _ ?_; clear η κ) | (refine r_nil (hK _ ?_); clear hE hK E K) | refine q_seq ?_ | refine c_skip ?_
      by_cases hin : y ∈ q.hk
      · rw [if_pos hin] at hget
        have hrr := hP.r _ hin
        have hput := hasM_put hin (hg := hg) (hg y + 1)
        have hhas : hasOf q y = q.hv y := if_pos hin
        have hks : (regP q y p.cs.length).hk = q.hk := if_pos hin
        have hqvl : (q.hv y).length ≤ p.cs.length := by rw [← hhas, hqv]; simp; omega
        simp only [ky] at hput
        ((first | refine r_opN fun κ η => ?_ | refine d_opN (by kernel_rfl) fun κ η => ?_); simp only [go_sem, Nat.reduceLT, Nat.reduceEqDiff, Nat.reduceAdd, Nat.reduceMul, Nat.reduceLeDiff, Nat.le_refl, reduceIte, reduceCtorEq, hhh, hget]; (repeat refine ⟨by omega, ?_⟩); refine η _ ?_; clear η κ)
        ((first | refine r_opN fun κ η => ?_ | refine d_opN (by kernel_rfl) fun κ η => ?_); simp only [go_sem, Nat.reduceLT, Nat.reduceEqDiff, Nat.reduceAdd, Nat.reduceMul, Nat.reduceLeDiff, Nat.le_refl, reduceIte, reduceCtorEq]; (repeat refine ⟨by omega, ?_⟩); refine η _ ?_; clear η κ)
        ((first | refine r_opN fun κ η => ?_ | refine d_opN (by kernel_rfl) fun κ η => ?_); simp only [go_sem, Nat.reduceLT, Nat.reduceEqDiff, Nat.reduceAdd, Nat.reduceMul, Nat.reduceLeDiff, Nat.le_refl, reduceIte, reduceCtorEq]; (repeat refine ⟨by omega, ?_⟩); refine η _ ?_; clear η κ)
        ((first | refine r_opN fun κ η => ?_ | refine d_opN (by kernel_rfl) fun κ η => ?_); simp only [go_sem, Nat.reduceLT, Nat.reduceEqDiff, Nat.reduceAdd, Nat.reduceMul, Nat.reduceLeDiff, Nat.le_refl, reduceIte, reduceCtorEq, hhh, hrr, hidn, hidn2, hidn3]; (repeat refine ⟨by omega, ?_⟩); refine η _ ?_; clear η κ)
        ((first | refine r_opN fun κ η => ?_ | refine d_opN (by kernel_rfl) fun κ η => ?_); simp only [go_sem, Nat.reduceLT, Nat.reduceEqDiff, Nat.reduceAdd, Nat.reduceMul, Nat.reduceLeDiff, Nat.le_refl, reduceIte, reduceCtorEq, hhh, hrr, hidn, hidn2, hidn3, hidn4, hidn5, hput]; (repeat refine ⟨by omega, ?_⟩); refine η _ ?_; clear η κ)
        repeat' first | refine c_seq ?_ | refine c_reg' rfl fun K E hK hE => ?_ | (refine r_opN fun κ η => ?_; simp only [go_sem, Nat.reduceLT, Nat.reduceEqDiff, Nat.reduceAdd, Nat.reduceMul, Nat.reduceLeDiff, Nat.le_refl, reduceIte, reduceCtorEq, hw]; refine η _ ?_; clear η κ) | refine q_seq ?_ | (refine d_nil (hK _ ?_); clear hE hK E K)
        refine r_call fun κ η => ?_; simp only [go_sem, Nat.reduceLT, Nat.reduceEqDiff, Nat.reduceAdd, Nat.reduceMul, Nat.reduceLeDiff, Nat.le_refl, reduceIte, reduceCtorEq]; refine ⟨_, is_cm Hy (p := regP q y p.cs.length) (by exact Prv.reg hP (by rw [hks]; rfl) (by rw [hhas]; simp [nf, lookO, hidn, hidn2, hidn3, hidn4, hidn5]) (fun i hi => lookO_other (by simp; omega))) (0 - y) hlit, ?_⟩; rintro _ o2 ⟨rfl, hF2⟩; simp only [go_sem, Nat.reduceLT, Nat.reduceEqDiff, Nat.reduceAdd, Nat.reduceMul, Nat.reduceLeDiff, Nat.le_refl, reduceIte, reduceCtorEq]; refine η _ ?_; clear η κ
        have hP2 : ∃ hg', Prv o2 (regP q y p.cs.length) g1 g2 g5 hg' := by
          refine ⟨fun z => if z = y then hg y + 1 else hg z, Prv.fr ?_ hF2 (by simp)⟩
          exact Prv.reg hP (by rw [hks]; rfl) (by rw [hhas]; simp [nf, lookO, hidn, hidn2, hidn3, hidn4, hidn5]) (fun i hi => lookO_other (by simp; omega))
        have hFA := hF2.toA (by simp)
        have h950 := hF2 950 (by simp)
        simp only [hk4]
        by_cases c1 : 0 - y ∈ p.tr
        · rw [decide_eq_true c1]
          rw [if_pos c1, Nat.add_zero] at hap
          obtain ⟨hg', hP2⟩ := hP2
          repeat' first | (refine r_opN fun κ η => ?_; simp only [go_sem, Nat.reduceLT, Nat.reduceEqDiff, Nat.reduceAdd, Nat.reduceMul, Nat.reduceLeDiff, Nat.le_refl, reduceIte, reduceCtorEq]; refine η _ ?_; clear η κ) | (refine r_nil (hK _ ?_); clear hE hK E K) | refine q_seq ?_
          refine c_cond _ rfl (fun hq => (by cases hq)) (fun hq => ?_)
          repeat' first | refine c_reg' rfl fun K E hK hE => ?_ | (refine r_opN fun κ η => ?_; simp only [go_sem, Nat.reduceLT, Nat.reduceEqDiff, Nat.reduceAdd, Nat.reduceMul, Nat.reduceLeDiff, Nat.le_refl, reduceIte, reduceCtorEq]; (repeat refine ⟨by omega, ?_⟩); refine η _ ?_; clear η κ) | (refine r_nil (hK _ ?_); clear hE hK E K) | refine q_seq ?_ | refine q_blk ?_ | refine c_skip ?_ | refine q_lpN ?_
          exact ⟨c.length - (k + 1), by omega, k + 1, _, _, _, regP q y p.cs.length, hg', rfl, by omega, by rw [htk, hap]; exact nf_of rfl ⟨rfl, rfl, rfl, rfl, rfl, rfl, rfl, trivial⟩ trivial, .inr ⟨_, rfl, by rw [htk]; exact h950.trans (by simp [nf, lookO, hidn, hidn2, hidn3, hidn4, hidn5, hid_ne2])⟩, (hF.trans (Fr.toA (ids := [903, hid y, 963, 950, 949]) (fr_nf (by simp)) (by simp; omega))).trans hFA, hP2, by rw [htk]; exact hnx⟩
        · rw [decide_eq_false c1]
          rw [if_neg c1] at hap
          obtain ⟨hg', hP2⟩ := hP2
          repeat' first | (refine r_opN fun κ η => ?_; simp only [go_sem, Nat.reduceLT, Nat.reduceEqDiff, Nat.reduceAdd, Nat.reduceMul, Nat.reduceLeDiff, Nat.le_refl, reduceIte, reduceCtorEq]; refine η _ ?_; clear η κ) | (refine r_nil (hK _ ?_); clear hE hK E K) | refine q_seq ?_
          refine c_cond _ rfl (fun hq => ?_) (fun hq => (by cases hq))
          repeat' first | refine c_reg' rfl fun K E hK hE => ?_ | (refine r_opN fun κ η => ?_; simp only [go_sem, Nat.reduceLT, Nat.reduceEqDiff, Nat.reduceAdd, Nat.reduceMul, Nat.reduceLeDiff, Nat.le_refl, reduceIte, reduceCtorEq]; (repeat refine ⟨by omega, ?_⟩); refine η _ ?_; clear η κ) | (refine r_nil (hK _ ?_); clear hE hK E K) | refine q_seq ?_ | refine q_blk ?_ | refine q_lpN ?_
          exact ⟨c.length - (k + 1), by omega, k + 1, _, _, _, regP q y p.cs.length, hg', rfl, by omega, by rw [htk, hap]; exact nf_of rfl ⟨rfl, rfl, rfl, rfl, rfl, rfl, rfl, trivial⟩ trivial, .inr ⟨_, rfl, by rw [htk]; exact h950.trans (by simp [nf, lookO, hidn, hidn2, hidn3, hidn4, hidn5, hid_ne2])⟩, (hF.trans (Fr.toA (ids := [903, hid y, 963, 950, 949]) (fr_nf (by simp)) (by simp; omega))).trans hFA, hP2, by rw [htk]; exact hnx⟩
      · rw [if_neg hin] at hget
        have hput := hasM_new hin (hg := hg)
        have hhas : hasOf q y = [] := if_neg hin
        have hks : (regP q y p.cs.length).hk = q.hk ++ [y] := if_neg hin
        simp only [ky] at hput
        ((first | refine r_opN fun κ η => ?_ | refine d_opN (by kernel_rfl) fun κ η => ?_); simp only [go_sem, Nat.reduceLT, Nat.reduceEqDiff, Nat.reduceAdd, Nat.reduceMul, Nat.reduceLeDiff, Nat.le_refl, reduceIte, reduceCtorEq, hhh, hget]; (repeat refine ⟨by omega, ?_⟩); refine η _ ?_; clear η κ)
        ((first | refine r_opN fun κ η => ?_ | refine d_opN (by kernel_rfl) fun κ η => ?_); simp only [go_sem, Nat.reduceLT, Nat.reduceEqDiff, Nat.reduceAdd, Nat.reduceMul, Nat.reduceLeDiff, Nat.le_refl, reduceIte, reduceCtorEq]; (repeat refine ⟨by omega, ?_⟩); refine η _ ?_; clear η κ)
        ((first | refine r_opN fun κ η => ?_ | refine d_opN (by kernel_rfl) fun κ η => ?_); simp only [go_sem, Nat.reduceLT, Nat.reduceEqDiff, Nat.reduceAdd, Nat.reduceMul, Nat.reduceLeDiff, Nat.le_refl, reduceIte, reduceCtorEq]; (repeat refine ⟨by omega, ?_⟩); refine η _ ?_; clear η κ)
        (refine d_opC (fun _ => hid y) (by kernel_rfl) fun κ η => ?_; simp only [go_sem, Nat.reduceLT, Nat.reduceEqDiff, Nat.reduceAdd, Nat.reduceMul, Nat.reduceLeDiff, Nat.le_refl, reduceIte, reduceCtorEq, hidn, hidn2, hidn3]; (repeat refine ⟨by omega, ?_⟩); refine η _ ?_; clear η κ)
        ((first | refine r_opN fun κ η => ?_ | refine d_opN (by kernel_rfl) fun κ η => ?_); simp only [go_sem, Nat.reduceLT, Nat.reduceEqDiff, Nat.reduceAdd, Nat.reduceMul, Nat.reduceLeDiff, Nat.le_refl, reduceIte, reduceCtorEq, hhh, hidn, hidn2, hidn3, hidn4, hidn5, hput]; (repeat refine ⟨by omega, ?_⟩); refine η _ ?_; clear η κ)
        repeat' first | refine c_seq ?_ | refine c_reg' rfl fun K E hK hE => ?_ | (refine r_opN fun κ η => ?_; simp only [go_sem, Nat.reduceLT, Nat.reduceEqDiff, Nat.reduceAdd, Nat.reduceMul, Nat.reduceLeDiff, Nat.le_refl, reduceIte, reduceCtorEq, hw]; refine η _ ?_; clear η κ) | refine q_seq ?_ | (refine d_nil (hK _ ?_); clear hE hK E K)
        refine r_call fun κ η => ?_; simp only [go_sem, Nat.reduceLT, Nat.reduceEqDiff, Nat.reduceAdd, Nat.reduceMul, Nat.reduceLeDiff, Nat.le_refl, reduceIte, reduceCtorEq]; refine ⟨_, is_cm Hy (p := regP q y p.cs.length) (by exact Prv.reg hP (by rw [hks]; rfl) (by rw [hhas]; simp [nf, lookO, hidn, hidn2, hidn3, hidn4, hidn5]) (fun i hi => lookO_other (by simp; omega))) (0 - y) hlit, ?_⟩; rintro _ o2 ⟨rfl, hF2⟩; simp only [go_sem, Nat.reduceLT, Nat.reduceEqDiff, Nat.reduceAdd, Nat.reduceMul, Nat.reduceLeDiff, Nat.le_refl, reduceIte, reduceCtorEq]; refine η _ ?_; clear η κ
        have hP2 : ∃ hg', Prv o2 (regP q y p.cs.length) g1 g2 g5 hg' := by
          refine ⟨fun z => if z = y then (oc (hid y)).gen + 1 else hg z, Prv.fr ?_ hF2 (by simp)⟩
          exact Prv.reg hP (by rw [hks]; rfl) (by rw [hhas]; simp [nf, lookO, hidn, hidn2, hidn3, hidn4, hidn5]) (fun i hi => lookO_other (by simp; omega))
        have hFA := hF2.toA (by simp)
        have h950 := hF2 950 (by simp)
        simp only [hk4]
        by_cases c1 : 0 - y ∈ p.tr
        · rw [decide_eq_true c1]
          rw [if_pos c1, Nat.add_zero] at hap
          obtain ⟨hg', hP2⟩ := hP2
          repeat' first | (refine r_opN fun κ η => ?_; simp only [go_sem, Nat.reduceLT, Nat.reduceEqDiff, Nat.reduceAdd, Nat.reduceMul, Nat.reduceLeDiff, Nat.le_refl, reduceIte, reduceCtorEq]; refine η _ ?_; clear η κ) | (refine r_nil (hK _ ?_); clear hE hK E K) | refine q_seq ?_
          refine c_cond _ rfl (fun hq => (by cases hq)) (fun hq => ?_)
          repeat' first | refine c_reg' rfl fun K E hK hE => ?_ | (refine r_opN fun κ η => ?_; simp only [go_sem, Nat.reduceLT, Nat.reduceEqDiff, Nat.reduceAdd, Nat.reduceMul, Nat.reduceLeDiff, Nat.le_refl, reduceIte, reduceCtorEq]; (repeat refine ⟨by omega, ?_⟩); refine η _ ?_; clear η κ) | (refine r_nil (hK _ ?_); clear hE hK E K) | refine q_seq ?_ | refine q_blk ?_ | refine c_skip ?_ | refine q_lpN ?_
          exact ⟨c.length - (k + 1), by omega, k + 1, _, _, _, regP q y p.cs.length, hg', rfl, by omega, by rw [htk, hap]; exact nf_of rfl ⟨rfl, rfl, rfl, rfl, rfl, rfl, rfl, trivial⟩ trivial, .inr ⟨_, rfl, by rw [htk]; exact h950.trans (by simp [nf, lookO, hidn, hidn2, hidn3, hidn4, hidn5, hid_ne2])⟩, (hF.trans (Fr.toA (ids := [903, hid y, 963, 950, 949]) (fr_nf (by simp)) (by simp; omega))).trans hFA, hP2, by rw [htk]; exact hnx⟩
        · rw [decide_eq_false c1]
          rw [if_neg c1] at hap
          obtain ⟨hg', hP2⟩ := hP2
          repeat' first | (refine r_opN fun κ η => ?_; simp only [go_sem, Nat.reduceLT, Nat.reduceEqDiff, Nat.reduceAdd, Nat.reduceMul, Nat.reduceLeDiff, Nat.le_refl, reduceIte, reduceCtorEq]; refine η _ ?_; clear η κ) | (refine r_nil (hK _ ?_); clear hE hK E K) | refine q_seq ?_
          refine c_cond _ rfl (fun hq => ?_) (fun hq => (by cases hq))
          repeat' first | refine c_reg' rfl fun K E hK hE => ?_ | (refine r_opN fun κ η => ?_; simp only [go_sem, Nat.reduceLT, Nat.reduceEqDiff, Nat.reduceAdd, Nat.reduceMul, Nat.reduceLeDiff, Nat.le_refl, reduceIte, reduceCtorEq]; (repeat refine ⟨by omega, ?_⟩); refine η _ ?_; clear η κ) | (refine r_nil (hK _ ?_); clear hE hK E K) | refine q_seq ?_ | refine q_blk ?_ | refine q_lpN ?_
          exact ⟨c.length - (k + 1), by omega, k + 1, _, _, _, regP q y p.cs.length, hg', rfl, by omega, by rw [htk, hap]; exact nf_of rfl ⟨rfl, rfl, rfl, rfl, rfl, rfl, rfl, trivial⟩ trivial, .inr ⟨_, rfl, by rw [htk]; exact h950.trans (by simp [nf, lookO, hidn, hidn2, hidn3, hidn4, hidn5, hid_ne2])⟩, (hF.trans (Fr.toA (ids := [903, hid y, 963, 950, 949]) (fr_nf (by simp)) (by simp; omega))).trans hFA, hP2, by rw [htk]; exact hnx⟩
  · simp only [decide_eq_false_iff_not] at hq
    rw [List.take_of_length_le (by omega)] at hx hR
    rw [List.take_of_length_le (by omega)]
    have hbb := hP.b
    have hcc := hP.c
    have hll := hP.l
    rw [hq2] at hcc
    rw [hq3] at hll
    have hlfl : p.lf.length = p.cs.length := by rw [hcmp.w.lf, List.length_map]
    have hcl : cnt p.tr (dd c) ≤ (dd c).length := cnt_le
    have hnew := add_new (p1 := { q with cs := p.cs ++ [dd c], lf := p.lf ++ [(cnt p.tr (dd c) : Int)] }) hcmp hl hR rfl
    have hcs1 : (p.cs ++ [dd c])[p.cs.length]? = some (dd c) := by rw [List.getElem?_append_right (Nat.le_refl _), Nat.sub_self]; rfl
    have hfit1 : (p.cs ++ [dd c]).length ≤ 1000000 ∧ ∀ c' ∈ p.cs ++ [dd c], c'.length ≤ 1000000 := by
      refine ⟨by rw [List.length_append]; simp; omega, fun d hd => ?_⟩
      rcases List.mem_append.1 hd with hd | hd
      · exact hfit.2 d hd
      · rw [List.mem_singleton.1 hd]; omega
    have hend : ∀ (o2 o3 : Nat → O) p2 g1 g2 g5 hg, FrA o o2 → Prv o2 p2 g1 g2 g5 hg → Wf V p2 → Sat p2 → Snd p2 (fun _ => False) → p2.cs = p.cs ++ [dd c] → ∀ p' g, Prv o3 p' g1 g2 g hg → Good V (fun _ => False) p2 p' → (p'.cf = true ∨ p'.wn = p'.tr.length) → Fr idsP o2 o3 → ∃ p' g1 g2 g5 hg, Prv o3 p' g1 g2 g5 hg ∧ FrA o o3 ∧ ((p'.cf = true ∧ ((p.cf = true ∧ p' = p) ∨ (Confl (p.cs ++ [dd c]) (fun _ => False) ∧ Wt V p'))) ∨ (p.cf = false ∧ Cmp V p' ∧ p'.cs = p.cs ++ [dd c])) := by
      intro o2 o3 p2 g1 g2 g5 hg hFa _ hw2 hs2 hn2 hc2 p' g hP' hgd hen hF3
      refine ⟨p', g1, g2, g, hg, hP', hFa.trans (hF3.toA (by simp [idsP])), ?_⟩
      have e := hgd.cs.trans hc2
      by_cases hcf' : p'.cf = true
      · refine .inl ⟨hcf', .inr ⟨?_, hgd.w.wt⟩⟩
        have := hgd.n.2 hcf'
        rwa [e] at this
      · exact .inr ⟨hcff, ⟨hgd.w, hgd.s, hgd.n.1, hen.resolve_left hcf', by simpa using hcf'⟩, e⟩
    have hlc : ∀ x ∈ dd c, Lit64 x := fun x hx => by
      have := hl x ((hdm x).1 hx)
      unfold LitV at this
      unfold Lit64
      omega
    rcases hx with ⟨hx0, rfl⟩ | ⟨n, rfl, hn⟩
    · repeat' first | refine c_seq ?_ | refine c_reg' rfl fun K E hK hE => ?_ | refine c_draw' rfl (by kernel_rfl) fun K E hK hE => ?_ | ((first | refine r_opN fun κ η => ?_ | refine d_opN (by kernel_rfl) fun κ η => ?_); simp only [go_sem, Nat.reduceLT, Nat.reduceEqDiff, Nat.reduceAdd, Nat.reduceMul, Nat.reduceLeDiff, Nat.le_refl, reduceIte, reduceCtorEq, hbb, hcc, hll]; (repeat refine ⟨by omega, ?_⟩); refine η _ ?_; clear η κ) | (refine r_nil (hK _ ?_); clear hE hK E K) | refine q_seq ?_ | (refine d_nil (hK _ ?_); clear hE hK E K) | refine c_exit ?_ | refine q_seqE ?_ | refine q_blkHit ?_ | refine q_lpE ?_
      have hP1 : Prv (nf 80 F oc [] [(900, ⟨1, .cells 53 [.row 901 (g1 + 1), .row 902 (g2 + 1), .row 903 1, .row 904 1, .row 905 g5, .t (.i .i64 q.wn), .t (.b q.cf)]⟩),
        (900, ⟨1, .cells 53 [.row 901 (g1 + 1), .row 902 g2, .row 903 1, .row 904 1, .row 905 g5, .t (.i .i64 q.wn), .t (.b q.cf)]⟩),
        (902, ⟨g2 + 1, .row 3 1 (List.map (fun x => [T.i .i64 x]) p.lf ++ [[T.i .i64 (cnt p.tr (dd c))]])⟩), (987, ⟨(oc 987).gen + 1, .row 3 1 [[T.i .i64 (cnt p.tr (dd c))]]⟩),
        (901, ⟨g1 + 1, .row 31 1 (List.map (fun c => [iL c]) p.cs ++ [[T.sl []]])⟩), (980, ⟨(oc 980).gen + 1, .row 31 1 [[T.sl []]]⟩)]).o { q with cs := p.cs ++ [dd c], lf := p.lf ++ [(cnt p.tr (dd c) : Int)] } (g1 + 1) (g2 + 1) g5 hg := by
        obtain ⟨k1, k2, k3, k4, k5, k6, k7⟩ := hP
        refine ⟨rfl, ?_, ?_, k4, fun x hx => (lookO_other (by simp [hid_ne2])).trans (k5 x hx), k6, k7⟩
        · rw [hx0, List.map_append]
          rfl
        · rw [List.map_append]
          rfl
      have hF1 : FrA o (nf 80 F oc [] [(900, ⟨1, .cells 53 [.row 901 (g1 + 1), .row 902 (g2 + 1), .row 903 1, .row 904 1, .row 905 g5, .t (.i .i64 q.wn), .t (.b q.cf)]⟩),
        (900, ⟨1, .cells 53 [.row 901 (g1 + 1), .row 902 g2, .row 903 1, .row 904 1, .row 905 g5, .t (.i .i64 q.wn), .t (.b q.cf)]⟩),
        (902, ⟨g2 + 1, .row 3 1 (List.map (fun x => [T.i .i64 x]) p.lf ++ [[T.i .i64 (cnt p.tr (dd c))]])⟩), (987, ⟨(oc 987).gen + 1, .row 3 1 [[T.i .i64 (cnt p.tr (dd c))]]⟩),
        (901, ⟨g1 + 1, .row 31 1 (List.map (fun c => [iL c]) p.cs ++ [[T.sl []]])⟩), (980, ⟨(oc 980).gen + 1, .row 31 1 [[T.sl []]]⟩)]).o := hF.trans (Fr.toA (ids := [900, 902, 987, 901, 980]) (fr_nf (by simp)) (by simp))
      refine c_cond _ rfl (fun hq => ?_) (fun hq => ?_)
      · simp only [decide_eq_true_eq] at hq
        obtain ⟨hw2, hs2, hn2, hc2⟩ := hnew _ (.inl ⟨by omega, rfl⟩)
        have hfit2 : Fit (lastP { q with cs := p.cs ++ [dd c], lf := p.lf ++ [(cnt p.tr (dd c) : Int)] } p.cs.length) := by unfold Fit; rw [hc2]; exact hfit1
        repeat' first | refine c_reg' rfl fun K E hK hE => ?_ | (refine r_opN fun κ η => ?_; simp only [go_sem, Nat.reduceLT, Nat.reduceEqDiff, Nat.reduceAdd, Nat.reduceMul, Nat.reduceLeDiff, Nat.le_refl, reduceIte, reduceCtorEq]; refine η _ ?_; clear η κ)
        refine r_call fun κ η => ?_; simp only [go_sem, Nat.reduceLT, Nat.reduceEqDiff, Nat.reduceAdd, Nat.reduceMul, Nat.reduceLeDiff, Nat.le_refl, reduceIte, reduceCtorEq]; refine ⟨_, last_cm Hy hP1 p.cs.length (dd c) hcs1 hlc (by omega) (by rw [hq1]; omega), ?_⟩; rintro _ o2 ⟨rfl, ⟨g', hP2⟩, hF2⟩; simp only [go_sem, Nat.reduceLT, Nat.reduceEqDiff, Nat.reduceAdd, Nat.reduceMul, Nat.reduceLeDiff, Nat.le_refl, reduceIte, reduceCtorEq]; refine η _ ?_; clear η κ
        repeat' first | refine c_reg' rfl fun K E hK hE => ?_ | (refine r_opN fun κ η => ?_; simp only [go_sem, Nat.reduceLT, Nat.reduceEqDiff, Nat.reduceAdd, Nat.reduceMul, Nat.reduceLeDiff, Nat.le_refl, reduceIte, reduceCtorEq]; refine η _ ?_; clear η κ) | (refine r_nil (hK _ ?_); clear hE hK E K) | refine q_seq ?_
        refine r_call fun κ η => ?_; simp only [go_sem, Nat.reduceLT, Nat.reduceEqDiff, Nat.reduceAdd, Nat.reduceMul, Nat.reduceLeDiff, Nat.le_refl, reduceIte, reduceCtorEq]; refine ⟨_, propagate_cm Hy hV hP2 hw2 hs2 hn2 hfit2, ?_⟩; rintro _ o3 ⟨rfl, p', g'', hP3, hgd, hen, hF3⟩; simp only [go_sem, Nat.reduceLT, Nat.reduceEqDiff, Nat.reduceAdd, Nat.reduceMul, Nat.reduceLeDiff, Nat.le_refl, reduceIte, reduceCtorEq]; refine η _ ?_; clear η κ
        repeat' first | (refine r_nil (hK _ ?_); clear hE hK E K) | (refine q_end ?_; refine q_r0 ?_; simp only [go_sem, Nat.reduceLT, Nat.reduceEqDiff, Nat.reduceAdd, Nat.reduceMul, Nat.reduceLeDiff, Nat.le_refl, reduceIte, reduceCtorEq])
        exact hend _ _ _ _ _ _ _ (hF1.trans (hF2.toA (by simp))) hP2 hw2 hs2 hn2 hc2 p' g'' hP3 hgd hen hF3
      · simp only [decide_eq_false_iff_not] at hq
        obtain ⟨hw2, hs2, hn2, hc2⟩ := hnew _ (.inr ⟨by omega, rfl⟩)
        repeat' first | refine c_reg' rfl fun K E hK hE => ?_ | (refine r_opN fun κ η => ?_; simp only [go_sem, Nat.reduceLT, Nat.reduceEqDiff, Nat.reduceAdd, Nat.reduceMul, Nat.reduceLeDiff, Nat.le_refl, reduceIte, reduceCtorEq]; refine η _ ?_; clear η κ) | refine q_seq ?_ | refine c_skip ?_
        refine r_call fun κ η => ?_; simp only [go_sem, Nat.reduceLT, Nat.reduceEqDiff, Nat.reduceAdd, Nat.reduceMul, Nat.reduceLeDiff, Nat.le_refl, reduceIte, reduceCtorEq]; refine ⟨_, propagate_cm Hy hV hP1 hw2 hs2 hn2 hfit1, ?_⟩; rintro _ o3 ⟨rfl, p', g'', hP3, hgd, hen, hF3⟩; simp only [go_sem, Nat.reduceLT, Nat.reduceEqDiff, Nat.reduceAdd, Nat.reduceMul, Nat.reduceLeDiff, Nat.le_refl, reduceIte, reduceCtorEq]; refine η _ ?_; clear η κ
        repeat' first | (refine r_nil (hK _ ?_); clear hE hK E K) | (refine q_end ?_; refine q_r0 ?_; simp only [go_sem, Nat.reduceLT, Nat.reduceEqDiff, Nat.reduceAdd, Nat.reduceMul, Nat.reduceLeDiff, Nat.le_refl, reduceIte, reduceCtorEq])
        exact hend _ _ _ _ _ _ _ hF1 hP1 hw2 hs2 hn2 hc2 p' g'' hP3 hgd hen hF3
    · skip
      repeat' first | refine c_exit ?_ | refine q_seqE ?_ | refine q_blkHit ?_ | refine q_lpE ?_
      refine q_seq ?_
      repeat' first | refine c_seq ?_ | refine c_draw' rfl (by kernel_rfl) fun K E hK hE => ?_ | (refine d_opN (by kernel_rfl) fun κ η => ?_; simp only [go_sem, Nat.reduceLT, Nat.reduceEqDiff, Nat.reduceAdd, Nat.reduceMul, Nat.reduceLeDiff, Nat.le_refl, reduceIte, reduceCtorEq, hbb, hcc, hll, hn]; (repeat refine ⟨by omega, ?_⟩); refine η _ ?_; clear η κ) | (refine d_nil (hK _ ?_); clear hE hK E K)
      refine q_flatR (id := 901) (r := 950) rfl (by exact hn) (by decide) fun o4 t2 t3 => ?_
      have hP1 : Prv o4 { q with cs := p.cs ++ [dd c], lf := p.lf ++ [(cnt p.tr (dd c) : Int)] } (g1 + 1) (g2 + 1) g5 hg := by
        obtain ⟨k1, k2, k3, k4, k5, k6, k7⟩ := hP
        refine ⟨(t3 900 (by decide) (by decide)).trans rfl, ?_, ?_, (t3 903 (by decide) (by decide)).trans k4, fun x hx => (t3 _ (by have := hid_ge x; omega) (by have := hid_ge x; omega)).trans ((lookO_other (by simp [hid_ne2])).trans (k5 x hx)), (t3 904 (by decide) (by decide)).trans k6, (t3 905 (by decide) (by decide)).trans k7⟩
        · rw [t2, List.map_append]
          rfl
        · rw [t3 902 (by decide) (by decide), List.map_append]
          rfl
      have hF1 : FrA o o4 := hF.trans (FrA.trans (Fr.toA (ids := [900, 902, 987, 901, 980]) (fr_nf (by simp)) (by simp)) fun i hi => t3 i (by omega) (by omega))
      clear t2 t3
      repeat' first | refine c_seq ?_ | refine c_reg' rfl fun K E hK hE => ?_ | (refine r_opN fun κ η => ?_; simp only [go_sem, Nat.reduceLT, Nat.reduceEqDiff, Nat.reduceAdd, Nat.reduceMul, Nat.reduceLeDiff, Nat.le_refl, reduceIte, reduceCtorEq]; refine η _ ?_; clear η κ) | (refine r_nil (hK _ ?_); clear hE hK E K) | refine q_seq ?_
      refine c_cond _ rfl (fun hq => ?_) (fun hq => ?_)
      · simp only [decide_eq_true_eq] at hq
        obtain ⟨hw2, hs2, hn2, hc2⟩ := hnew _ (.inl ⟨by omega, rfl⟩)
        have hfit2 : Fit (lastP { q with cs := p.cs ++ [dd c], lf := p.lf ++ [(cnt p.tr (dd c) : Int)] } p.cs.length) := by unfold Fit; rw [hc2]; exact hfit1
        repeat' first | refine c_reg' rfl fun K E hK hE => ?_ | (refine r_opN fun κ η => ?_; simp only [go_sem, Nat.reduceLT, Nat.reduceEqDiff, Nat.reduceAdd, Nat.reduceMul, Nat.reduceLeDiff, Nat.le_refl, reduceIte, reduceCtorEq]; refine η _ ?_; clear η κ)
        refine r_call fun κ η => ?_; simp only [go_sem, Nat.reduceLT, Nat.reduceEqDiff, Nat.reduceAdd, Nat.reduceMul, Nat.reduceLeDiff, Nat.le_refl, reduceIte, reduceCtorEq]; refine ⟨_, last_cm Hy hP1 p.cs.length (dd c) hcs1 hlc (by omega) (by rw [hq1]; omega), ?_⟩; rintro _ o2 ⟨rfl, ⟨g', hP2⟩, hF2⟩; simp only [go_sem, Nat.reduceLT, Nat.reduceEqDiff, Nat.reduceAdd, Nat.reduceMul, Nat.reduceLeDiff, Nat.le_refl, reduceIte, reduceCtorEq]; refine η _ ?_; clear η κ
        repeat' first | refine c_reg' rfl fun K E hK hE => ?_ | (refine r_opN fun κ η => ?_; simp only [go_sem, Nat.reduceLT, Nat.reduceEqDiff, Nat.reduceAdd, Nat.reduceMul, Nat.reduceLeDiff, Nat.le_refl, reduceIte, reduceCtorEq]; refine η _ ?_; clear η κ) | (refine r_nil (hK _ ?_); clear hE hK E K) | refine q_seq ?_
        refine r_call fun κ η => ?_; simp only [go_sem, Nat.reduceLT, Nat.reduceEqDiff, Nat.reduceAdd, Nat.reduceMul, Nat.reduceLeDiff, Nat.le_refl, reduceIte, reduceCtorEq]; refine ⟨_, propagate_cm Hy hV hP2 hw2 hs2 hn2 hfit2, ?_⟩; rintro _ o3 ⟨rfl, p', g'', hP3, hgd, hen, hF3⟩; simp only [go_sem, Nat.reduceLT, Nat.reduceEqDiff, Nat.reduceAdd, Nat.reduceMul, Nat.reduceLeDiff, Nat.le_refl, reduceIte, reduceCtorEq]; refine η _ ?_; clear η κ
        repeat' first | (refine r_nil (hK _ ?_); clear hE hK E K) | (refine q_end ?_; refine q_r0 ?_; simp only [go_sem, Nat.reduceLT, Nat.reduceEqDiff, Nat.reduceAdd, Nat.reduceMul, Nat.reduceLeDiff, Nat.le_refl, reduceIte, reduceCtorEq])
        exact hend _ _ _ _ _ _ _ (hF1.trans (hF2.toA (by simp))) hP2 hw2 hs2 hn2 hc2 p' g'' hP3 hgd hen hF3
      · simp only [decide_eq_false_iff_not] at hq
        obtain ⟨hw2, hs2, hn2, hc2⟩ := hnew _ (.inr ⟨by omega, rfl⟩)
        repeat' first | refine c_reg' rfl fun K E hK hE => ?_ | (refine r_opN fun κ η => ?_; simp only [go_sem, Nat.reduceLT, Nat.reduceEqDiff, Nat.reduceAdd, Nat.reduceMul, Nat.reduceLeDiff, Nat.le_refl, reduceIte, reduceCtorEq]; refine η _ ?_; clear η κ) | refine q_seq ?_ | refine c_skip ?_
        refine r_call fun κ η => ?_; simp only [go_sem, Nat.reduceLT, Nat.reduceEqDiff, Nat.reduceAdd, Nat.reduceMul, Nat.reduceLeDiff, Nat.le_refl, reduceIte, reduceCtorEq]; refine ⟨_, propagate_cm Hy hV hP1 hw2 hs2 hn2 hfit1, ?_⟩; rintro _ o3 ⟨rfl, p', g'', hP3, hgd, hen, hF3⟩; simp only [go_sem, Nat.reduceLT, Nat.reduceEqDiff, Nat.reduceAdd, Nat.reduceMul, Nat.reduceLeDiff, Nat.le_refl, reduceIte, reduceCtorEq]; refine η _ ?_; clear η κ
        repeat' first | (refine r_nil (hK _ ?_); clear hE hK E K) | (refine q_end ?_; refine q_r0 ?_; simp only [go_sem, Nat.reduceLT, Nat.reduceEqDiff, Nat.reduceAdd, Nat.reduceMul, Nat.reduceLeDiff, Nat.le_refl, reduceIte, reduceCtorEq])
        exact hend _ _ _ _ _ _ _ hF1 hP1 hw2 hs2 hn2 hc2 p' g'' hP3 hgd hen hF3
end Go.Proofs.Ytfflfmpkjcomgaa
namespace Go.Proofs.Ytfflfmpkjcomgaa
open Go.RowKit
set_option maxRecDepth 100000
set_option linter.unusedSimpArgs false
section
variable {P : Program} {Hy : World → Prop}
theorem Cm.preCell {f : FuncId} {args : List A} {o : Nat → O} {R : List A → (Nat → O) → Prop} {c j id g z : Nat} {e ty : TypeId} {l : List A} (k1 : (o c).k = .cells ty l) (k2 : l[j]? = some .nilS) (k3 : id ≠ c) (k4 : (o id).gen < g)
    (h : Cm P Hy f args (obx (obx o id ⟨g, .row e z []⟩) c ⟨(o c).gen, .cells ty (l.set j (.row id g))⟩) R) : Cm P Hy f args o R :=
  ⟨h.fn, fun X B St w0 ι w cargs hM hs ha => by
    obtain ⟨ι2, m1, m2⟩ := hM.nilCell (e := e) (z := z) k1 k2 k3 k4
    exact h.go X B St w0 ι2 w cargs m1 hs (fun j v x h1 h2 => m2 _ _ (ha j v x h1 h2))⟩
theorem Cm.optCell {f : FuncId} {args : List A} {o : Nat → O} {R R' : List A → (Nat → O) → Prop} (h : Cm P Hy f args o R)
    (hr : ∀ rs o', R rs o' → R' rs o' ∨ ∃ (c j id g z : Nat) (e ty : TypeId) (l : List A), (o' c).k = .cells ty l ∧ l[j]? = some .nilS ∧ id ≠ c ∧ (o' id).gen < g ∧ R' rs (obx (obx o' id ⟨g, .row e z []⟩) c ⟨(o' c).gen, .cells ty (l.set j (.row id g))⟩)) : Cm P Hy f args o R' :=
  ⟨h.fn, fun X B St w0 ι w cargs hM hs ha => (h.go X B St w0 ι w cargs hM hs ha).mono (fun _ _ ⟨v, ι', o', rs, h1, h2, h3, h4⟩ => by
    rcases hr _ _ h2 with hr | ⟨c, j, id, g, z, e, ty, l, k1, k2, k3, k4, k5⟩
    · exact ⟨v, ι', o', rs, h1, hr, h3, h4⟩
    · obtain ⟨ι2, m1, m2⟩ := h3.nilCell (e := e) (z := z) k1 k2 k3 k4
      exact ⟨v, ι2, _, rs, h1, k5, m1, RresM.impI m2 h4⟩)⟩
end
variable (Hy : World → Prop)
attribute [local irreducible] runM runD cwp seqQ blkQ lpQ retQ asQ bdQ bdY retP
/-- a prover that was told these clauses -/
def Inv (V : Int) (cs : List (List Int)) (p : Pv) : Prop := (p.cf = true ∧ Confl cs (fun _ => False) ∧ Wt V p) ∨ (Cmp V p ∧ p.cs = cs.map dd)
theorem dd_mono {l l' : List (List Int)} (h : ∀ c ∈ l, c ∈ l') : ∀ c ∈ l.map dd, ∃ c' ∈ l', ∀ y, y ∈ c ↔ y ∈ c' := fun c hc => by
  obtain ⟨c', h1, rfl⟩ := List.mem_map.1 hc
  exact ⟨c', h c' h1, (dd_facts c').1⟩
theorem dd_mono2 {l l' : List (List Int)} (h : ∀ c ∈ l, c ∈ l') : ∀ c ∈ l, ∃ c' ∈ l'.map dd, ∀ y, y ∈ c ↔ y ∈ c' := fun c hc => ⟨dd c, List.mem_map_of_mem (h c hc), fun y => ((dd_facts c).1 y).symm⟩
theorem confl_dd {cs : List (List Int)} {G : Int → Prop} : Confl (cs.map dd) G ↔ Confl cs G := ⟨fun h => h.mono (dd_mono fun _ h => h) fun _ h => .given h, fun h => h.mono (dd_mono2 fun _ h => h) fun _ h => .given h⟩
theorem inv_cf {V : Int} {cs : List (List Int)} {p : Pv} (h : Inv V cs p) : p.cf = true ↔ Confl cs (fun _ => False) := by
  constructor
  · intro hc
    rcases h with h | ⟨h, _⟩
    · exact h.2.1
    · rw [h.c] at hc; cases hc
  · intro hc
    rcases h with h | ⟨h, e⟩
    · exact h.1
    · have := (done_un h.w h.s (G := fun _ => False) ⟨h.n, fun e => by rw [h.c] at e; cases e⟩ (fun _ e => e.elim) h.d h.c).2
      rw [e, confl_dd] at this
      exact absurd hc this
theorem inv_fit {V : Int} {cs : List (List Int)} {p : Pv} (h : Inv V cs p) (h1 : cs.length < 1000000) (h2 : ∀ c ∈ cs, c.length ≤ 1000000) : p.cf = true ∨ (p.cs.length < 1000000 ∧ ∀ c ∈ p.cs, c.length ≤ 1000000) := by
  rcases h with h | ⟨h, e⟩
  · exact .inl h.1
  · right
    rw [e, List.length_map]
    refine ⟨h1, fun c hc => ?_⟩
    obtain ⟨c', hc', rfl⟩ := List.mem_map.1 hc
    exact Nat.le_trans (dd_facts c').2.2 (h2 c' hc')
theorem inv_step {V : Int} {cs : List (List Int)} {c : List Int} {p p' : Pv} (h : Inv V cs p) (h' : (p'.cf = true ∧ ((p.cf = true ∧ p' = p) ∨ (Confl (p.cs ++ [dd c]) (fun _ => False) ∧ Wt V p'))) ∨ (p.cf = false ∧ Cmp V p' ∧ p'.cs = p.cs ++ [dd c])) : Inv V (cs ++ [c]) p' := by
  rcases h' with ⟨h1, h2⟩ | ⟨h1, h2, h3⟩
  · have key : p.cf = true → Confl (cs ++ [c]) (fun _ => False) := fun hc => ((inv_cf h).1 hc).mono (fun c hc => ⟨c, List.mem_append_left _ hc, fun _ => Iff.rfl⟩) fun _ h => .given h
    rcases h2 with ⟨h2, rfl⟩ | ⟨h2, h3⟩
    · refine .inl ⟨h1, key h2, ?_⟩
      rcases h with h | ⟨h, e⟩
      · exact h.2.2
      · rw [h.c] at h2; cases h2
    · refine .inl ⟨h1, ?_, h3⟩
      rcases h with h | ⟨_, e⟩
      · exact key h.1
      · rw [e] at h2
        have : cs.map dd ++ [dd c] = (cs ++ [c]).map dd := by rw [List.map_append]; rfl
        rw [this, confl_dd] at h2
        exact h2
  · right
    rcases h with h | ⟨_, e⟩
    · rw [h.1] at h1; cases h1
    · exact ⟨h2, by rw [h3, e, List.map_append]; rfl⟩
def p00 : Pv := ⟨[], [], [], fun _ => [], [], 0, false⟩
theorem inv_zero (V : Int) : Inv V [] p00 := by
  have hn : ∀ (Q : Int → Prop), ∀ x ∈ p00.tr, Q x := fun Q x hx => absurd hx List.not_mem_nil
  have hc : ∀ (Q : List Int → Prop), ∀ x ∈ p00.cs, Q x := fun Q x hx => absurd hx List.not_mem_nil
  exact .inr ⟨⟨⟨hc _, List.nodup_nil, fun x => rfl, hn _, List.nodup_nil, hn _, Int.le_refl _, Int.le_refl _, rfl⟩, .inr (hc _), hn _, rfl, rfl⟩, rfl⟩
theorem isRup_inv {V : Int} {o : Nat → O} {p : Pv} {cs : List (List Int)} {g1 g2 g5 : Nat} {hg : Int → Nat} (c : List Int) (hV : 0 ≤ V ∧ V ≤ 20000) (hP : Prv o p g1 g2 g5 hg) (hi : Inv V cs p) (h1 : cs.length < 1000000) (h2 : ∀ c ∈ cs, c.length ≤ 1000000) (hl : ∀ x ∈ c, LitV V x) (hll : c.length ≤ 1000000) :
    Cm Try.prog Hy 33 [.ptr 900 1 0, .t (iL c)] o fun rs o' => ∃ q g, rs = [.t (.b q)] ∧ Prv o' p g1 g2 g hg ∧ Fr idsR o o' ∧ (q = true ↔ Confl cs (GL (turn c))) := by
  have hf := inv_fit hi h1 h2
  refine (isRup_cm Hy c hV hP (hi.imp (·.1) (·.1)) (hf.imp id fun h => ⟨Nat.le_of_lt h.1, h.2⟩) hl hll).mono ?_
  rintro rs o' ⟨q, g, rfl, k2, k3, k4, k5⟩
  refine ⟨q, g, rfl, k2, k3, ?_⟩
  by_cases hc : p.cf = true
  · rw [k4 hc]
    exact iff_of_true rfl (((inv_cf hi).1 hc).mono (fun c hc => ⟨c, hc, fun _ => Iff.rfl⟩) fun _ e => e.elim)
  · rw [k5 (by simpa using hc)]
    rcases hi with hi | ⟨_, e⟩
    · exact absurd hi.1 hc
    · rw [e, confl_dd]
theorem add_inv {V : Int} {o : Nat → O} {p : Pv} {cs : List (List Int)} {g1 g2 g5 : Nat} {hg : Int → Nat} (c : List Int) (hV : 0 ≤ V ∧ V ≤ 20000) (hP : Prv o p g1 g2 g5 hg) (hi : Inv V cs p) (h1 : cs.length < 1000000) (h2 : ∀ c ∈ cs, c.length ≤ 1000000) (hl : ∀ x ∈ c, LitV V x) (hll : c.length ≤ 1000000) :
    Cm Try.prog Hy 46 [.ptr 900 1 0, .t (iL c)] o fun rs o' => rs = [] ∧ ∃ p' g1 g2 g5 hg, Prv o' p' g1 g2 g5 hg ∧ FrA o o' ∧ Inv V (cs ++ [c]) p' :=
  (add_cm Hy c hV hP (hi.imp (·.1) (·.1)) (inv_fit hi h1 h2) hl hll).mono fun _ _ ⟨e, p', g1, g2, g5, hg, k1, k2, k3⟩ => ⟨e, p', g1, g2, g5, hg, k1, k2, inv_step hi k3⟩
/-- a prover that was just made -/
structure PvN (o : Nat → O) : Prop where
  b : o 900 = ⟨1, .cells 53 [.nilS, .nilS, .row 903 1, .row 904 1, .nilS, .t (.i .i64 0), .t (.b false)]⟩
  h : o 903 = ⟨1, .map (.int .i64) []⟩
  s : o 904 = ⟨1, .map (.int .i64) []⟩
def nO1 (o : Nat → O) : Nat → O := obx (obx o 901 ⟨(o 901).gen + 1, .row 31 1 []⟩) 900 ⟨1, .cells 53 [.row 901 ((o 901).gen + 1), .nilS, .row 903 1, .row 904 1, .nilS, .t (.i .i64 0), .t (.b false)]⟩
def nO2 (o : Nat → O) : Nat → O := obx (obx (nO1 o) 902 ⟨(o 902).gen + 1, .row 3 1 []⟩) 900 ⟨1, .cells 53 [.row 901 ((o 901).gen + 1), .row 902 ((o 902).gen + 1), .row 903 1, .row 904 1, .nilS, .t (.i .i64 0), .t (.b false)]⟩
def nO (o : Nat → O) : Nat → O := obx (obx (nO2 o) 905 ⟨(o 905).gen + 1, .row 3 1 []⟩) 900 ⟨1, .cells 53 [.row 901 ((o 901).gen + 1), .row 902 ((o 902).gen + 1), .row 903 1, .row 904 1, .row 905 ((o 905).gen + 1), .t (.i .i64 0), .t (.b false)]⟩
theorem PvN.prv {o : Nat → O} (h : PvN o) : ∃ g1 g2 g5, Prv (nO o) p00 g1 g2 g5 (fun _ => 0) :=
  ⟨(o 901).gen + 1, (o 902).gen + 1, (o 905).gen + 1, ⟨rfl, rfl, rfl, h.h, fun _ hx => absurd hx List.not_mem_nil, h.s, rfl⟩⟩
theorem obx_other {o : Nat → O} {id i : Nat} {x : O} (h : i ≠ id) : obx o id x i = o i := if_neg h
theorem PvN.fr {o : Nat → O} : FrA o (nO o) := fun i hi => by
  unfold nO nO2 nO1
  rw [obx_other (by omega), obx_other (by omega), obx_other (by omega), obx_other (by omega), obx_other (by omega), obx_other (by omega)]
theorem PvN.pre {o : Nat → O} (h : PvN o) {f : FuncId} {args : List A} {R : List A → (Nat → O) → Prop} (hc : Cm Try.prog Hy f args (nO o) R) : Cm Try.prog Hy f args o R := by
  have hb := h.b
  refine Cm.preCell (c := 900) (j := 0) (id := 901) (g := (o 901).gen + 1) (z := 1) (e := 31) (by rw [hb]) rfl (by decide) (Nat.lt_succ_self _) ?_
  rw [hb]
  refine Cm.preCell (c := 900) (j := 1) (id := 902) (g := (o 902).gen + 1) (z := 1) (e := 3) rfl rfl (by decide) (Nat.lt_succ_self _) ?_
  exact Cm.preCell (c := 900) (j := 4) (id := 905) (g := (o 905).gen + 1) (z := 1) (e := 3) rfl rfl (by decide) (Nat.lt_succ_self _) hc
theorem PvN.post {f : FuncId} {args : List A} {o : Nat → O} {R : List A → (Nat → O) → Prop} (hc : Cm Try.prog Hy f args o fun rs o' => R rs o' ∨ (PvN o' ∧ R rs (nO o'))) : Cm Try.prog Hy f args o R := by
  have h1 : Cm Try.prog Hy f args o fun rs o' => R rs o' ∨ ∃ o1, o' = nO1 o1 ∧ R rs (nO o1) := Cm.optCell hc fun rs o' hr => by
    rcases hr with hr | ⟨hp, hr⟩
    · exact .inl (.inl hr)
    · have hb := hp.b
      refine .inr ⟨900, 0, 901, (o' 901).gen + 1, 1, 31, 53, _, by rw [hb], rfl, by decide, Nat.lt_succ_self _, .inr ⟨o', ?_, hr⟩⟩
      rw [hb]
      rfl
  have h2 : Cm Try.prog Hy f args o fun rs o' => R rs o' ∨ ∃ o1, o' = nO2 o1 ∧ R rs (nO o1) := Cm.optCell h1 fun rs o' hr => by
    rcases hr with hr | ⟨o1, rfl, hr⟩
    · exact .inl (.inl hr)
    · exact .inr ⟨900, 1, 902, (o1 902).gen + 1, 1, 3, 53, _, rfl, rfl, by decide, Nat.lt_succ_self _, .inr ⟨o1, rfl, hr⟩⟩
  exact Cm.optCell h2 fun rs o' hr => by
    rcases hr with hr | ⟨o1, rfl, hr⟩
    · exact .inl hr
    · exact .inr ⟨900, 4, 905, (o1 905).gen + 1, 1, 3, 53, _, rfl, rfl, by decide, Nat.lt_succ_self _, hr⟩
theorem newProver_cm {V : Int} {o : Nat → O} (cs : List (List Int)) (hV : 0 ≤ V ∧ V ≤ 20000) (h0 : (o 900).gen = 0 ∧ (o 903).gen = 0 ∧ (o 904).gen = 0) (hl : ∀ c ∈ cs, c.length ≤ 1000000 ∧ ∀ x ∈ c, LitV V x) (hn : cs.length < 1000000) :
    Cm Try.prog Hy 24 [.t (cL cs)] o fun rs o' => rs = [.ptr 900 1 0] ∧ ∃ p g1 g2 g5 hg, Prv o' p g1 g2 g5 hg ∧ FrA o o' ∧ Inv V cs p := by
  obtain ⟨h00, h03, h04⟩ := h0
  have hmR := mlawR
  have hmS := mlawS
  refine PvN.post Hy ?_
  refine cm_of (cls := fun d => 930 + d) tt_ok follows_ Try.func24 rfl (by decide) (Nat.le_of_ble_eq_true rfl) ?_
  rw [show Try.f24.ntmps = 21 from rfl, s0_nf]
  simp only [List.zipIdx_cons, List.zipIdx_nil, List.map_cons, List.map_nil, Nat.reduceAdd, cL]
  refine c_seq ?_
  refine c_reg' rfl fun K E hK hE => ?_
  ((first | refine r_opN fun κ η => ?_ | refine d_opN (by kernel_rfl) fun κ η => ?_); simp only [go_sem, Nat.reduceLT, Nat.reduceEqDiff, Nat.reduceAdd, Nat.reduceMul, Nat.reduceLeDiff, Nat.le_refl, reduceIte, reduceCtorEq]; (repeat refine ⟨by omega, ?_⟩); refine η _ ?_; clear η κ)
  refine r_nil (hK _ ?_); clear hE hK E K
  refine q_seq ?_
  refine c_seq ?_
  refine c_reg' rfl fun K E hK hE => ?_
  (refine r_opC (fun _ => 903) fun κ η => ?_; simp only [go_sem, Nat.reduceLT, Nat.reduceEqDiff, Nat.reduceAdd, Nat.reduceMul, Nat.reduceLeDiff, Nat.le_refl, reduceIte, reduceCtorEq]; (repeat refine ⟨by omega, ?_⟩); refine η _ ?_; clear η κ)
  (refine r_opC (fun _ => 904) fun κ η => ?_; simp only [go_sem, Nat.reduceLT, Nat.reduceEqDiff, Nat.reduceAdd, Nat.reduceMul, Nat.reduceLeDiff, Nat.le_refl, reduceIte, reduceCtorEq]; (repeat refine ⟨by omega, ?_⟩); refine η _ ?_; clear η κ)
  ((first | refine r_opN fun κ η => ?_ | refine d_opN (by kernel_rfl) fun κ η => ?_); simp only [go_sem, Nat.reduceLT, Nat.reduceEqDiff, Nat.reduceAdd, Nat.reduceMul, Nat.reduceLeDiff, Nat.le_refl, reduceIte, reduceCtorEq]; (repeat refine ⟨by omega, ?_⟩); refine η _ ?_; clear η κ)
  (refine r_opC (fun _ => 900) fun κ η => ?_; simp only [go_sem, Nat.reduceLT, Nat.reduceEqDiff, Nat.reduceAdd, Nat.reduceMul, Nat.reduceLeDiff, Nat.le_refl, reduceIte, reduceCtorEq, h00, h03, h04]; (repeat refine ⟨by omega, ?_⟩); refine η _ ?_; clear η κ)
  repeat' first | refine c_seq ?_ | refine c_block ?_ | refine c_reg' rfl fun K E hK hE => ?_ | (refine r_opN fun κ η => ?_; simp only [go_sem, Nat.reduceLT, Nat.reduceEqDiff, Nat.reduceAdd, Nat.reduceMul, Nat.reduceLeDiff, Nat.le_refl, reduceIte, reduceCtorEq]; refine η _ ?_; clear η κ) | (refine r_nil (hK _ ?_); clear hE hK E K) | refine q_seq ?_
  refine c_loop (fun m s' => ∃ k F oc, m = cs.length - k ∧ k ≤ cs.length ∧ s' = nf 21 F oc [(3, .ptr 900 1 0), (10, .t (cL cs)), (11, .t (.i .i64 cs.length)), (12, .t (.i .i64 (k : Nat)))] [] ∧ ((PvN oc ∧ FrA o oc ∧ k = 0) ∨ ∃ p g1 g2 g5 hg, Prv oc p g1 g2 g5 hg ∧ FrA o oc ∧ Inv V (cs.take k) p)) cs.length ?_ ?_
  · exact ⟨0, _, _, by omega, by omega, nf_of rfl ⟨rfl, rfl, rfl, rfl, trivial⟩ trivial, .inl ⟨⟨rfl, rfl, rfl⟩, Fr.toA (ids := [900, 903, 904]) (fr_nf (by simp)) (by simp), rfl⟩⟩
  rintro m s' ⟨k, F, oc, rfl, hk, rfl, hst⟩
  simp only [cL]
  repeat' first | refine c_seq ?_ | refine c_reg' rfl fun K E hK hE => ?_ | (refine r_opN fun κ η => ?_; simp only [go_sem, Nat.reduceLT, Nat.reduceEqDiff, Nat.reduceAdd, Nat.reduceMul, Nat.reduceLeDiff, Nat.le_refl, reduceIte, reduceCtorEq]; refine η _ ?_; clear η κ) | (refine r_nil (hK _ ?_); clear hE hK E K) | refine q_seq ?_
  refine c_cond _ rfl (fun hq => ?_) (fun hq => ?_)
  · simp only [decide_eq_true_eq] at hq
    obtain ⟨c, hc⟩ : ∃ c, cs[k]? = some c := ⟨_, List.getElem?_eq_getElem (by omega)⟩
    obtain ⟨hcl, hcx⟩ := hl c (List.mem_of_getElem? hc)
    have htk : cs.take (k + 1) = cs.take k ++ [c] := by rw [List.take_add_one, hc]; rfl
    have htl : (cs.take k).length < 1000000 := by rw [List.length_take]; omega
    have hte : ∀ c ∈ cs.take k, c.length ≤ 1000000 := fun c hc => (hl c (List.take_subset _ _ hc)).1
    have key : Cm Try.prog Hy 46 [.ptr 900 1 0, .t (iL c)] oc fun rs o' => rs = [] ∧ ∃ p' g1 g2 g5 hg, Prv o' p' g1 g2 g5 hg ∧ FrA o o' ∧ Inv V (cs.take (k + 1)) p' := by
      rcases hst with ⟨hp, hF, rfl⟩ | ⟨p, g1, g2, g5, hg, hP, hF, hi⟩
      · obtain ⟨g1, g2, g5, hP⟩ := hp.prv
        refine hp.pre Hy ((add_inv (cs := []) Hy c hV hP (inv_zero V) (by decide) (fun _ hx => absurd hx List.not_mem_nil) hcx hcl).mono ?_)
        rintro rs o' ⟨k1, p', g1, g2, g5, hg, k2, k3, k4⟩
        exact ⟨k1, p', g1, g2, g5, hg, k2, (hF.trans PvN.fr).trans k3, by rw [htk]; exact k4⟩
      · refine (add_inv Hy c hV hP hi htl hte hcx hcl).mono ?_
        rintro rs o' ⟨k1, p', g1, g2, g5, hg, k2, k3, k4⟩
        exact ⟨k1, p', g1, g2, g5, hg, k2, hF.trans k3, by rw [htk]; exact k4⟩
    simp only [iL] at key
    repeat' first | refine c_seq ?_ | refine c_block ?_ | refine c_reg' rfl fun K E hK hE => ?_ | (refine r_opN fun κ η => ?_; simp only [go_sem, Nat.reduceLT, Nat.reduceEqDiff, Nat.reduceAdd, Nat.reduceMul, Nat.reduceLeDiff, Nat.le_refl, reduceIte, reduceCtorEq, hc, iL]; (repeat refine ⟨by omega, ?_⟩); refine η _ ?_; clear η κ) | (refine r_nil (hK _ ?_); clear hE hK E K) | refine q_seq ?_ | refine c_skip ?_
    refine r_call fun κ η => ?_; simp only [go_sem, Nat.reduceLT, Nat.reduceEqDiff, Nat.reduceAdd, Nat.reduceMul, Nat.reduceLeDiff, Nat.le_refl, reduceIte, reduceCtorEq]; refine ⟨_, key, ?_⟩; rintro _ o2 ⟨rfl, p', g1, g2, g5, hg, k2, k3, k4⟩; simp only [go_sem, Nat.reduceLT, Nat.reduceEqDiff, Nat.reduceAdd, Nat.reduceMul, Nat.reduceLeDiff, Nat.le_refl, reduceIte, reduceCtorEq]; refine η _ ?_; clear η κ
    repeat' first | refine c_reg' rfl fun K E hK hE => ?_ | (refine r_opN fun κ η => ?_; simp only [go_sem, Nat.reduceLT, Nat.reduceEqDiff, Nat.reduceAdd, Nat.reduceMul, Nat.reduceLeDiff, Nat.le_refl, reduceIte, reduceCtorEq]; (repeat refine ⟨by omega, ?_⟩); refine η _ ?_; clear η κ) | (refine r_nil (hK _ ?_); clear hE hK E K) | refine q_seq ?_ | refine q_blk ?_ | refine q_lpN ?_
    exact ⟨cs.length - (k + 1), by omega, k + 1, _, _, rfl, by omega, nf_of rfl ⟨rfl, rfl, rfl, rfl, trivial⟩ trivial, .inr ⟨p', g1, g2, g5, hg, k2, k3, k4⟩⟩
  · simp only [decide_eq_false_iff_not] at hq
    rw [List.take_of_length_le (by omega)] at hst
    repeat' first | refine c_seq ?_ | refine c_reg' rfl fun K E hK hE => ?_ | (refine r_opN fun κ η => ?_; simp only [go_sem, Nat.reduceLT, Nat.reduceEqDiff, Nat.reduceAdd, Nat.reduceMul, Nat.reduceLeDiff, Nat.le_refl, reduceIte, reduceCtorEq]; refine η _ ?_; clear η κ) | (refine r_nil (hK _ ?_); clear hE hK E K) | refine q_seq ?_ | refine c_exit ?_ | refine c_ret ?_ | refine q_seqE ?_ | refine q_blkHit ?_ | refine q_lpE ?_ | (refine q_ret ?_; refine q_r1 ?_; simp only [go_sem, Nat.reduceLT, Nat.reduceEqDiff, Nat.reduceAdd, Nat.reduceMul, Nat.reduceLeDiff, Nat.le_refl, reduceIte, reduceCtorEq])
    rcases hst with ⟨hp, hF, rfl⟩ | ⟨p, g1, g2, g5, hg, hP, hF, hi⟩
    · right
      obtain ⟨g1, g2, g5, hP⟩ := hp.prv
      have h0 : cs = [] := List.length_eq_zero_iff.1 (by omega)
      exact ⟨hp, p00, g1, g2, g5, _, hP, hF.trans PvN.fr, h0 ▸ inv_zero V⟩
    · exact .inl ⟨p, g1, g2, g5, hg, hP, hF, hi⟩
end Go.Proofs.Ytfflfmpkjcomgaa
