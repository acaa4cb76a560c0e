import Derived.Test.YtfflfmpkjcomgaaDoorK13
namespace Go.Proofs.YtfflfmpkjcomgaaDoor
open Go.RowKit
set_option maxRecDepth 100000
set_option linter.unusedSimpArgs false
variable (Hy : World → Prop)
attribute [local irreducible] runM runD cwp seqQ blkQ lpQ retQ asQ bdQ bdY retP endR preD retD
def selR (x : Li) (b : Bool) (rows : List Row) : List Row := rows.filter fun r => hadB x r == b
theorem selR_take {x : Li} {b : Bool} {rows : List Row} {k : Nat} {r : Row} (h : rows[k]? = some r) : selR x b (rows.take (k + 1)) = selR x b (rows.take k) ++ if hadB x r = b then [r] else [] := by
  unfold selR
  rw [List.take_add_one, h, List.filter_append]
  by_cases c : hadB x r = b
  · simp [c]
  · have : (hadB x r == b) = false := by simpa using c
    simp [c, this]
/-- what stands in memory while rows are gathered in a variable at idc -/
structure GatI (oS : Nat → O) (rows : List Row) (x : Li) (b : Bool) (f : Row → Row) (idc idr idt : Nat) (g1 g2 g3 g gc : Nat) (k : Nat) (o : Nat → O) : Prop where
  h3 : o 6003 = ⟨g1, .cells 22 [.t (rL rows)]⟩
  h4 : o 6004 = ⟨g2, .cells 81 [.fn 99 [] [.ptr 6001 g 0]]⟩
  h5 : o 6005 = ⟨g3, .cells 4 [.t (.b b)]⟩
  h1 : o 6001 = ⟨g, .cells 86 [.t (.i .i64 x.p), .t (.i .i64 x.c.toNat)]⟩
  n : ∃ xx, o idc = ⟨gc, .cells 22 [xx]⟩ ∧ Acc o idr 9 1 (((selR x b (rows.take k)).map f).map fun r => [.s (mk r)]) xx
  fr : Fr [6003, 6004, 6005, 6001, idc, idr, idt] oS o
theorem GatI.get {oS : Nat → O} {rows : List Row} {x : Li} {b : Bool} {f : Row → Row} {idc idr idt g1 g2 g3 g gc k : Nat} {o : Nat → O} (h : GatI oS rows x b f idc idr idt g1 g2 g3 g gc k o) : o 6003 = ⟨g1, .cells 22 [.t (rL rows)]⟩ ∧ o 6004 = ⟨g2, .cells 81 [.fn 99 [] [.ptr 6001 g 0]]⟩ ∧ o 6005 = ⟨g3, .cells 4 [.t (.b b)]⟩ ∧ o 6001 = ⟨g, .cells 86 [.t (.i .i64 x.p), .t (.i .i64 x.c.toNat)]⟩ := ⟨h.h3, h.h4, h.h5, h.h1⟩
theorem GatI.no {oS : Nat → O} {rows : List Row} {x : Li} {b : Bool} {f : Row → Row} {idc idr idt g1 g2 g3 g gc : Nat} (k : Nat) (o : Nat → O) (r : Row) (hr : rows[k]? = some r) (hb : hadB x r ≠ b) (h : GatI oS rows x b f idc idr idt g1 g2 g3 g gc k o) : GatI oS rows x b f idc idr idt g1 g2 g3 g gc (k + 1) o :=
  ⟨h.h3, h.h4, h.h5, h.h1, by rw [selR_take hr, if_neg hb, List.append_nil]; exact h.n, h.fr⟩
theorem GatI.up {oS : Nat → O} {rows : List Row} {x : Li} {b : Bool} {f : Row → Row} {idc idr idt g1 g2 g3 g gc k : Nat} {o o2 : Nat → O} {r : Row} {xx : A} (hid : idc < 6000 ∧ idr < 6000 ∧ idt < 6000) (hr : rows[k]? = some r) (hb : hadB x r = b) (h : GatI oS rows x b f idc idr idt g1 g2 g3 g gc k o)
    (h2 : o2 idc = ⟨gc, .cells 22 [xx]⟩) (hx : Acc o2 idr 9 1 (((selR x b (rows.take k)).map f).map (fun r => [.s (_root_.Go.Proofs.YtfflfmpkjcomgaaDoor.mk r)]) ++ [[.s (_root_.Go.Proofs.YtfflfmpkjcomgaaDoor.mk (f r))]]) xx) (hf : Fr [idc, idr, idt] o o2) : GatI oS rows x b f idc idr idt g1 g2 g3 g gc (k + 1) o2 :=
  ⟨by rw [hf _ (by simp; omega)]; exact h.h3, by rw [hf _ (by simp; omega)]; exact h.h4, by rw [hf _ (by simp; omega)]; exact h.h5, by rw [hf _ (by simp; omega)]; exact h.h1, ⟨xx, h2, by
    rw [selR_take hr, if_pos hb, List.map_append, List.map_append]
    exact hx⟩, h.fr.trans fun i hi => hf i fun e => hi (by
    simp only [List.mem_cons, List.not_mem_nil, or_false] at e ⊢
    omega)⟩
set_option maxHeartbeats 8000000 in
theorem factorMost_ct (rows : List Row) (x : Li) (R1 R2 : List Fm) (hl : rows.length ≤ 1000000) (n : Nat) (hn : ∀ r ∈ rows, r.length = n) (hn2 : n ≤ 1000000) (hx : x.p < n) (hR1 : R1.length ≤ 100000000) (hR2 : R2.length ≤ 100000000)
    (hf1 : Ct Tryd.prog Hy 27 [rL ((selR x true rows).map fun r => r.set x.p 45)] [fL R1]) (hf2 : Ct Tryd.prog Hy 27 [rL (selR x false rows)] [fL R2]) :
    Ct Tryd.prog Hy 53 [rL rows, .ag (lE x)] [fL (⟨4, 0, 2⟩ :: (allOfF [x] R1 ++ R2))] := by
  have ha := allOf_ct Hy [x] R1 (by simp) (fun y h => by rw [List.mem_singleton.1 h]; omega) hR1
  have hxl : ∀ r ∈ rows, x.p < r.length := fun r hr => by rw [hn r hr]; exact hx
  have hhad := fun o => had_cm Hy (o := o) x
  have hl1 : (allOfF [x] R1).length ≤ 200000000 := by
    unfold allOfF
    have := restF_len R1
    split <;> simp <;> omega
  simp only [lL, fL, List.map_cons, List.map_nil] at ha
  refine ct_of (cls := _root_.id) tt_ok follows_ Tryd.func53 rfl (by decide) (Nat.le_of_ble_eq_true rfl) ?_
  rw [show Tryd.f53.ntmps = 44 from rfl, s0_nf]
  simp only [List.zipIdx_cons, List.zipIdx_nil, List.map_cons, List.map_nil, Nat.reduceAdd, rL, lE]
  repeat' first | refine c_seq ?_ | refine c_reg' rfl fun K E hK hE => ?_ | (refine r_opN fun κ η => ?_; simp only [go_sem, Nat.reduceLT, Nat.reduceEqDiff, Nat.reduceAdd, Nat.reduceMul, Nat.reduceLeDiff, Nat.le_refl, reduceIte, reduceCtorEq]; refine η _ ?_; clear η κ) | (refine r_nil (hK _ ?_); clear hE hK E K) | refine q_seq ?_
  refine r_call fun κ η => ?_; simp only [go_sem, Nat.reduceLT, Nat.reduceEqDiff, Nat.reduceAdd, Nat.reduceMul, Nat.reduceLeDiff, Nat.le_refl, reduceIte, reduceCtorEq]; refine ⟨_, hhad _, ?_⟩; rintro _ o2 ⟨g, rfl, h1, hF⟩; simp only [go_sem, Nat.reduceLT, Nat.reduceEqDiff, Nat.reduceAdd, Nat.reduceMul, Nat.reduceLeDiff, Nat.le_refl, reduceIte, reduceCtorEq]; refine η _ ?_; clear η κ
  refine r_call fun κ η => ?_; simp only [go_sem, Nat.reduceLT, Nat.reduceEqDiff, Nat.reduceAdd, Nat.reduceMul, Nat.reduceLeDiff, Nat.le_refl, reduceIte, reduceCtorEq]; refine ⟨_, which_cm Hy rows g true, ?_⟩; rintro _ o3 ⟨g1, g2, g3, rfl, h3, h4, h5, hF3⟩; simp only [go_sem, Nat.reduceLT, Nat.reduceEqDiff, Nat.reduceAdd, Nat.reduceMul, Nat.reduceLeDiff, Nat.le_refl, reduceIte, reduceCtorEq]; refine η _ ?_; clear η κ
  repeat' first | refine c_block ?_ | (refine r_nil (hK _ ?_); clear hE hK E K) | refine q_seq ?_
  refine c_rangeY (YW rows x true (GatI o3 rows x true (fun r => r.set x.p 45) 5 21 20 g1 g2 g3 g 1)) _ rfl (fun lb => which_it Hy hl hxl (fun k o h => h.get) GatI.no ?_ lb) (fun args o1 Rb hy => ?_) (fun rs o' hr => ?_)
  · exact ⟨h3, h4, h5, (hF3 6001 (by simp)).trans h1, ⟨.nilS, (hF3 5 (by simp)).trans ((hF 5 (by simp)).trans rfl), .inl ⟨rfl, rfl⟩⟩, Fr.refl _ _⟩
  · obtain ⟨k, r, rfl, hrk, hb, hi, hRb⟩ := hy
    refine ⟨rfl, ?_⟩
    have hkk := (List.getElem?_eq_some_iff.1 hrk).1
    have hrn := hn r (List.mem_of_getElem? hrk)
    have hw := without_ct Hy r x.p (by omega) (by omega)
    have k3 : o1 3 = ⟨1, .cells 86 [.t (.i .i64 x.p), .t (.i .i64 x.c.toNat)]⟩ := (hi.fr 3 (by simp)).trans ((hF3 3 (by simp)).trans ((hF 3 (by simp)).trans rfl))
    have hlen : (((selR x true (rows.take k)).map fun r => r.set x.p 45).map fun r => [T.s (mk r)]).length ≤ 1000000 := by
      rw [List.length_map, List.length_map]
      have := List.length_filter_le (fun r => hadB x r == true) (rows.take k)
      rw [List.length_take] at this
      unfold selR
      omega
    have hup := fun (o2 : Nat → O) (xx : A) => hi.up (o2 := o2) (xx := xx) (by decide) hrk hb
    obtain ⟨xx, h5c, hxx⟩ := hi.n
    generalize ((selR x true (rows.take k)).map fun r => r.set x.p 45).map (fun r => [T.s (mk r)]) = rw0 at hup hxx hlen
    simp only [go_sem]
    repeat' first | refine c_reg' rfl fun K E hK hE => ?_ | (refine r_opN fun κ η => ?_; simp only [go_sem, Nat.reduceLT, Nat.reduceEqDiff, Nat.reduceAdd, Nat.reduceMul, Nat.reduceLeDiff, Nat.le_refl, reduceIte, reduceCtorEq]; refine η _ ?_; clear η κ) | (refine r_nil (hK _ ?_); clear hE hK E K)
    refine q_as ?_
    rcases hxx with ⟨rfl, rfl⟩ | ⟨q, rfl, hr2⟩
    · repeat' first | refine c_block ?_ | refine c_draw' rfl (by kernel_rfl) fun K E hK hE => ?_ | (refine d_opN (by kernel_rfl) fun κ η => ?_; simp only [go_sem, Nat.reduceLT, Nat.reduceEqDiff, Nat.reduceAdd, Nat.reduceMul, Nat.reduceLeDiff, Nat.le_refl, reduceIte, reduceCtorEq, h5c, k3]; (repeat refine ⟨by omega, ?_⟩); refine η _ ?_; clear η κ)
      refine d_opN (by kernel_rfl) fun κ η => ?_; simp only [go_sem, Nat.reduceLT, Nat.reduceEqDiff, Nat.reduceAdd, Nat.reduceMul, Nat.reduceLeDiff, Nat.le_refl, reduceIte, reduceCtorEq]; refine ⟨_, hw, ?_⟩; simp only [go_sem, Nat.reduceLT, Nat.reduceEqDiff, Nat.reduceAdd, Nat.reduceMul, Nat.reduceLeDiff, Nat.le_refl, reduceIte, reduceCtorEq]; refine η _ ?_; clear η κ
      repeat' first | (refine d_opN (by kernel_rfl) fun κ η => ?_; simp only [go_sem, Nat.reduceLT, Nat.reduceEqDiff, Nat.reduceAdd, Nat.reduceMul, Nat.reduceLeDiff, Nat.le_refl, reduceIte, reduceCtorEq, h5c]; refine η _ ?_; clear η κ) | (refine d_nil (hK _ ?_); clear hE hK E K) | refine q_blk ?_
      exact q_by (hRb _ (hup _ _ rfl (.inr ⟨_, rfl, rfl⟩) (fr_nf (by simp))))
    · repeat' first | refine c_block ?_ | refine c_draw' rfl (by kernel_rfl) fun K E hK hE => ?_ | (refine d_opN (by kernel_rfl) fun κ η => ?_; simp only [go_sem, Nat.reduceLT, Nat.reduceEqDiff, Nat.reduceAdd, Nat.reduceMul, Nat.reduceLeDiff, Nat.le_refl, reduceIte, reduceCtorEq, h5c, k3, hr2]; (repeat refine ⟨by omega, ?_⟩); refine η _ ?_; clear η κ)
      refine d_opN (by kernel_rfl) fun κ η => ?_; simp only [go_sem, Nat.reduceLT, Nat.reduceEqDiff, Nat.reduceAdd, Nat.reduceMul, Nat.reduceLeDiff, Nat.le_refl, reduceIte, reduceCtorEq]; refine ⟨_, hw, ?_⟩; simp only [go_sem, Nat.reduceLT, Nat.reduceEqDiff, Nat.reduceAdd, Nat.reduceMul, Nat.reduceLeDiff, Nat.le_refl, reduceIte, reduceCtorEq]; refine η _ ?_; clear η κ
      repeat' first | (refine d_opN (by kernel_rfl) fun κ η => ?_; simp only [go_sem, Nat.reduceLT, Nat.reduceEqDiff, Nat.reduceAdd, Nat.reduceMul, Nat.reduceLeDiff, Nat.le_refl, reduceIte, reduceCtorEq, h5c, hr2]; (repeat refine ⟨by omega, ?_⟩); refine η _ ?_; clear η κ) | (refine d_nil (hK _ ?_); clear hE hK E K) | refine q_blk ?_
      exact q_by (hRb _ (hup _ _ rfl (.inr ⟨_, rfl, rfl⟩) (fr_nf (by simp))))
  · obtain ⟨rfl, hr⟩ := hr
    have k3 : o' 3 = ⟨1, .cells 86 [.t (.i .i64 x.p), .t (.i .i64 x.c.toNat)]⟩ := (hr.fr 3 (by simp)).trans ((hF3 3 (by simp)).trans ((hF 3 (by simp)).trans rfl))
    have k6 : o' 6 = ⟨1, .cells 22 [.nilS]⟩ := (hr.fr 6 (by simp)).trans ((hF3 6 (by simp)).trans ((hF 6 (by simp)).trans rfl))
    obtain ⟨x5, k5, hx5⟩ := hr.n
    rw [List.take_length] at hx5
    clear hr h1 h3 h4 h5 hF hF3
    repeat' first | refine c_seq ?_ | refine c_reg' rfl fun K E hK hE => ?_ | (refine r_opN fun κ η => ?_; simp only [go_sem, Nat.reduceLT, Nat.reduceEqDiff, Nat.reduceAdd, Nat.reduceMul, Nat.reduceLeDiff, Nat.le_refl, reduceIte, reduceCtorEq, k3]; refine η _ ?_; clear η κ) | refine q_seq ?_ | refine q_blk ?_
    refine r_call fun κ η => ?_; simp only [go_sem, Nat.reduceLT, Nat.reduceEqDiff, Nat.reduceAdd, Nat.reduceMul, Nat.reduceLeDiff, Nat.le_refl, reduceIte, reduceCtorEq]; refine ⟨_, hhad _, ?_⟩; rintro _ o2 ⟨g, rfl, h1, hF⟩; simp only [go_sem, Nat.reduceLT, Nat.reduceEqDiff, Nat.reduceAdd, Nat.reduceMul, Nat.reduceLeDiff, Nat.le_refl, reduceIte, reduceCtorEq]; refine η _ ?_; clear η κ
    refine r_call fun κ η => ?_; simp only [go_sem, Nat.reduceLT, Nat.reduceEqDiff, Nat.reduceAdd, Nat.reduceMul, Nat.reduceLeDiff, Nat.le_refl, reduceIte, reduceCtorEq]; refine ⟨_, which_cm Hy rows g false, ?_⟩; rintro _ o3 ⟨g1, g2, g3, rfl, h3, h4, h5, hF3⟩; simp only [go_sem, Nat.reduceLT, Nat.reduceEqDiff, Nat.reduceAdd, Nat.reduceMul, Nat.reduceLeDiff, Nat.le_refl, reduceIte, reduceCtorEq]; refine η _ ?_; clear η κ
    repeat' first | refine c_block ?_ | (refine r_nil (hK _ ?_); clear hE hK E K) | refine q_seq ?_
    refine c_rangeY (YW rows x false (GatI o3 rows x false (fun r => r) 6 30 29 g1 g2 g3 g 1)) _ rfl (fun lb => which_it Hy hl hxl (fun k o h => h.get) GatI.no ?_ lb) (fun args o1 Rb hy => ?_) (fun rs o4 hr => ?_)
    · exact ⟨h3, h4, h5, (hF3 6001 (by simp)).trans h1, ⟨.nilS, (hF3 6 (by simp)).trans ((hF 6 (by simp)).trans k6), .inl ⟨rfl, rfl⟩⟩, Fr.refl _ _⟩
    · obtain ⟨k, r, rfl, hrk, hb, hi, hRb⟩ := hy
      refine ⟨rfl, ?_⟩
      have hkk := (List.getElem?_eq_some_iff.1 hrk).1
      have hlen : (((selR x false (rows.take k)).map fun r => r).map fun r => [T.s (mk r)]).length ≤ 1000000 := by
        rw [List.length_map, List.length_map]
        have := List.length_filter_le (fun r => hadB x r == false) (rows.take k)
        rw [List.length_take] at this
        unfold selR
        omega
      have hup := fun (o2 : Nat → O) (xx : A) => hi.up (o2 := o2) (xx := xx) (by decide) hrk hb
      obtain ⟨xx, h6c, hxx⟩ := hi.n
      generalize ((selR x false (rows.take k)).map fun r => r).map (fun r => [T.s (mk r)]) = rw0 at hup hxx hlen
      simp only [go_sem]
      repeat' first | refine c_reg' rfl fun K E hK hE => ?_ | (refine r_opN fun κ η => ?_; simp only [go_sem, Nat.reduceLT, Nat.reduceEqDiff, Nat.reduceAdd, Nat.reduceMul, Nat.reduceLeDiff, Nat.le_refl, reduceIte, reduceCtorEq]; refine η _ ?_; clear η κ) | (refine r_nil (hK _ ?_); clear hE hK E K)
      refine q_as ?_
      rcases hxx with ⟨rfl, rfl⟩ | ⟨q, rfl, hr2⟩
      · repeat' first | refine c_block ?_ | refine c_reg' rfl fun K E hK hE => ?_ | (refine r_opN fun κ η => ?_; simp only [go_sem, Nat.reduceLT, Nat.reduceEqDiff, Nat.reduceAdd, Nat.reduceMul, Nat.reduceLeDiff, Nat.le_refl, reduceIte, reduceCtorEq, h6c]; refine η _ ?_; clear η κ) | (refine r_nil (hK _ ?_); clear hE hK E K) | refine q_blk ?_
        exact q_by (hRb _ (hup _ _ rfl (.inr ⟨_, rfl, rfl⟩) (fr_nf (by simp))))
      · repeat' first | refine c_block ?_ | refine c_reg' rfl fun K E hK hE => ?_ | (refine r_opN fun κ η => ?_; simp only [go_sem, Nat.reduceLT, Nat.reduceEqDiff, Nat.reduceAdd, Nat.reduceMul, Nat.reduceLeDiff, Nat.le_refl, reduceIte, reduceCtorEq, h6c, hr2]; (repeat refine ⟨by omega, ?_⟩); refine η _ ?_; clear η κ) | (refine r_nil (hK _ ?_); clear hE hK E K) | refine q_blk ?_
        exact q_by (hRb _ (hup _ _ rfl (.inr ⟨_, rfl, rfl⟩) (fr_nf (by simp))))
    · obtain ⟨rfl, hr⟩ := hr
      have j3 : o4 3 = ⟨1, .cells 86 [.t (.i .i64 x.p), .t (.i .i64 x.c.toNat)]⟩ := (hr.fr 3 (by simp)).trans ((hF3 3 (by simp)).trans ((hF 3 (by simp)).trans k3))
      have j5 : o4 5 = ⟨1, .cells 22 [x5]⟩ := (hr.fr 5 (by simp)).trans ((hF3 5 (by simp)).trans ((hF 5 (by simp)).trans k5))
      have j21 : o4 21 = o' 21 := (hr.fr 21 (by simp)).trans ((hF3 21 (by simp)).trans ((hF 21 (by simp)).trans rfl))
      obtain ⟨x6, j6, hx6⟩ := hr.n
      rw [List.take_length, List.map_id'] at hx6
      replace hx5 : Acc o4 21 9 1 (((selR x true rows).map fun r => r.set x.p 45).map fun r => [.s (mk r)]) x5 := by
        rcases hx5 with h | ⟨q, e, h⟩
        · exact .inl h
        · exact .inr ⟨q, e, j21.trans h⟩
      have hz1 := strs1 ((selR x true rows).map fun r => r.set x.p 45)
      have hz2 := strs1 (selR x false rows)
      clear hr h1 h3 h4 h5 hF hF3 k3 k5 k6 j21
      simp only [rL, fL] at hf1 hf2
      generalize ((selR x true rows).map fun r => r.set x.p 45).map (fun r => [T.s (mk r)]) = w1 at hf1 hx5 hz1
      generalize (selR x false rows).map (fun r => [T.s (mk r)]) = w2 at hf2 hx6 hz2
      have hzA := eq_true (fm3 (allOfF [x] R1))
      have hzR := eq_true (fm3 R2)
      have hlA : ((allOfF [x] R1).map fun f => [T.i .i64 f.k, T.i .i64 f.lit, T.i .i64 f.kids]).length ≤ 200000000 := by rw [List.length_map]; exact hl1
      have hlR : (R2.map fun f => [T.i .i64 f.k, T.i .i64 f.lit, T.i .i64 f.kids]).length ≤ 100000000 := by rw [List.length_map]; exact hR2
      simp only [fL, List.map_cons, List.map_append]
      generalize (allOfF [x] R1).map (fun f => [T.i .i64 f.k, T.i .i64 f.lit, T.i .i64 f.kids]) = wA at ha hzA hlA ⊢
      generalize R2.map (fun f => [T.i .i64 f.k, T.i .i64 f.lit, T.i .i64 f.kids]) = wR at hf2 hzR hlR ⊢
      rcases hx5 with ⟨rfl, rfl⟩ | ⟨q5, rfl, hr5⟩
      · rcases hx6 with ⟨rfl, rfl⟩ | ⟨q6, rfl, hr6⟩
        · repeat' first | refine c_seq ?_ | refine c_reg' rfl fun K E hK hE => ?_ | refine c_draw' rfl (by kernel_rfl) fun K E hK hE => ?_ | ((first | refine r_opN fun κ η => ?_ | refine d_opN (by kernel_rfl) fun κ η => ?_); simp only [go_sem, Nat.reduceLT, Nat.reduceEqDiff, Nat.reduceAdd, Nat.reduceMul, Nat.reduceLeDiff, Nat.le_refl, reduceIte, reduceCtorEq, j3, j5, j6]; refine η _ ?_; clear η κ) | (refine r_nil (hK _ ?_); clear hE hK E K) | refine q_seq ?_ | refine q_blk ?_
          refine d_opN (by kernel_rfl) fun κ η => ?_; simp only [go_sem, Nat.reduceLT, Nat.reduceEqDiff, Nat.reduceAdd, Nat.reduceMul, Nat.reduceLeDiff, Nat.le_refl, reduceIte, reduceCtorEq]; refine ⟨_, hf1, ?_⟩; simp only [go_sem, Nat.reduceLT, Nat.reduceEqDiff, Nat.reduceAdd, Nat.reduceMul, Nat.reduceLeDiff, Nat.le_refl, reduceIte, reduceCtorEq]; refine η _ ?_; clear η κ
          refine d_opN (by kernel_rfl) fun κ η => ?_; simp only [go_sem, Nat.reduceLT, Nat.reduceEqDiff, Nat.reduceAdd, Nat.reduceMul, Nat.reduceLeDiff, Nat.le_refl, reduceIte, reduceCtorEq]; refine ⟨_, ha, ?_⟩; simp only [go_sem, Nat.reduceLT, Nat.reduceEqDiff, Nat.reduceAdd, Nat.reduceMul, Nat.reduceLeDiff, Nat.le_refl, reduceIte, reduceCtorEq]; refine η _ ?_; clear η κ
          repeat' first | refine c_seq ?_ | refine c_reg' rfl fun K E hK hE => ?_ | ((first | refine r_opN fun κ η => ?_ | refine d_opN (by kernel_rfl) fun κ η => ?_); simp only [go_sem, Nat.reduceLT, Nat.reduceEqDiff, Nat.reduceAdd, Nat.reduceMul, Nat.reduceLeDiff, Nat.le_refl, reduceIte, reduceCtorEq, hzA, j6]; (repeat refine ⟨by omega, ?_⟩); refine η _ ?_; clear η κ) | refine q_seq ?_ | (refine d_nil (hK _ ?_); clear hE hK E K)
          refine r_opN fun κ η => ?_; simp only [go_sem, Nat.reduceLT, Nat.reduceEqDiff, Nat.reduceAdd, Nat.reduceMul, Nat.reduceLeDiff, Nat.le_refl, reduceIte, reduceCtorEq]; refine ⟨_, hf2, ?_⟩; simp only [go_sem, Nat.reduceLT, Nat.reduceEqDiff, Nat.reduceAdd, Nat.reduceMul, Nat.reduceLeDiff, Nat.le_refl, reduceIte, reduceCtorEq]; refine η _ ?_; clear η κ
          repeat' first | (refine r_opN fun κ η => ?_; simp only [go_sem, Nat.reduceLT, Nat.reduceEqDiff, Nat.reduceAdd, Nat.reduceMul, Nat.reduceLeDiff, Nat.le_refl, reduceIte, reduceCtorEq, hzR]; (repeat refine ⟨by omega, ?_⟩); refine η _ ?_; clear η κ) | (refine r_nil (hK _ ?_); clear hE hK E K) | refine q_seq ?_ | refine c_ret ?_ | (refine q_ret ?_; refine q_r1 ?_; simp only [go_sem, Nat.reduceLT, Nat.reduceEqDiff, Nat.reduceAdd, Nat.reduceMul, Nat.reduceLeDiff, Nat.le_refl, reduceIte, reduceCtorEq, hzR])
        · repeat' first | refine c_seq ?_ | refine c_reg' rfl fun K E hK hE => ?_ | refine c_draw' rfl (by kernel_rfl) fun K E hK hE => ?_ | ((first | refine r_opN fun κ η => ?_ | refine d_opN (by kernel_rfl) fun κ η => ?_); simp only [go_sem, Nat.reduceLT, Nat.reduceEqDiff, Nat.reduceAdd, Nat.reduceMul, Nat.reduceLeDiff, Nat.le_refl, reduceIte, reduceCtorEq, j3, j5, j6]; refine η _ ?_; clear η κ) | (refine r_nil (hK _ ?_); clear hE hK E K) | refine q_seq ?_ | refine q_blk ?_
          refine d_opN (by kernel_rfl) fun κ η => ?_; simp only [go_sem, Nat.reduceLT, Nat.reduceEqDiff, Nat.reduceAdd, Nat.reduceMul, Nat.reduceLeDiff, Nat.le_refl, reduceIte, reduceCtorEq]; refine ⟨_, hf1, ?_⟩; simp only [go_sem, Nat.reduceLT, Nat.reduceEqDiff, Nat.reduceAdd, Nat.reduceMul, Nat.reduceLeDiff, Nat.le_refl, reduceIte, reduceCtorEq]; refine η _ ?_; clear η κ
          refine d_opN (by kernel_rfl) fun κ η => ?_; simp only [go_sem, Nat.reduceLT, Nat.reduceEqDiff, Nat.reduceAdd, Nat.reduceMul, Nat.reduceLeDiff, Nat.le_refl, reduceIte, reduceCtorEq]; refine ⟨_, ha, ?_⟩; simp only [go_sem, Nat.reduceLT, Nat.reduceEqDiff, Nat.reduceAdd, Nat.reduceMul, Nat.reduceLeDiff, Nat.le_refl, reduceIte, reduceCtorEq]; refine η _ ?_; clear η κ
          repeat' first | refine c_seq ?_ | refine c_reg' rfl fun K E hK hE => ?_ | ((first | refine r_opN fun κ η => ?_ | refine d_opN (by kernel_rfl) fun κ η => ?_); simp only [go_sem, Nat.reduceLT, Nat.reduceEqDiff, Nat.reduceAdd, Nat.reduceMul, Nat.reduceLeDiff, Nat.le_refl, reduceIte, reduceCtorEq, hzA, j6]; (repeat refine ⟨by omega, ?_⟩); refine η _ ?_; clear η κ) | refine q_seq ?_ | (refine d_nil (hK _ ?_); clear hE hK E K)
          refine r_opN fun κ η => ?_; simp only [go_sem, Nat.reduceLT, Nat.reduceEqDiff, Nat.reduceAdd, Nat.reduceMul, Nat.reduceLeDiff, Nat.le_refl, reduceIte, reduceCtorEq, hr6]; refine ⟨_, hf2, ?_⟩; simp only [go_sem, Nat.reduceLT, Nat.reduceEqDiff, Nat.reduceAdd, Nat.reduceMul, Nat.reduceLeDiff, Nat.le_refl, reduceIte, reduceCtorEq, hr6]; refine η _ ?_; clear η κ
          repeat' first | (refine r_opN fun κ η => ?_; simp only [go_sem, Nat.reduceLT, Nat.reduceEqDiff, Nat.reduceAdd, Nat.reduceMul, Nat.reduceLeDiff, Nat.le_refl, reduceIte, reduceCtorEq, hzR]; (repeat refine ⟨by omega, ?_⟩); refine η _ ?_; clear η κ) | (refine r_nil (hK _ ?_); clear hE hK E K) | refine q_seq ?_ | refine c_ret ?_ | (refine q_ret ?_; refine q_r1 ?_; simp only [go_sem, Nat.reduceLT, Nat.reduceEqDiff, Nat.reduceAdd, Nat.reduceMul, Nat.reduceLeDiff, Nat.le_refl, reduceIte, reduceCtorEq, hzR])
      · rcases hx6 with ⟨rfl, rfl⟩ | ⟨q6, rfl, hr6⟩
        · repeat' first | refine c_seq ?_ | refine c_reg' rfl fun K E hK hE => ?_ | refine c_draw' rfl (by kernel_rfl) fun K E hK hE => ?_ | ((first | refine r_opN fun κ η => ?_ | refine d_opN (by kernel_rfl) fun κ η => ?_); simp only [go_sem, Nat.reduceLT, Nat.reduceEqDiff, Nat.reduceAdd, Nat.reduceMul, Nat.reduceLeDiff, Nat.le_refl, reduceIte, reduceCtorEq, j3, j5, j6]; refine η _ ?_; clear η κ) | (refine r_nil (hK _ ?_); clear hE hK E K) | refine q_seq ?_ | refine q_blk ?_
          refine d_opN (by kernel_rfl) fun κ η => ?_; simp only [go_sem, Nat.reduceLT, Nat.reduceEqDiff, Nat.reduceAdd, Nat.reduceMul, Nat.reduceLeDiff, Nat.le_refl, reduceIte, reduceCtorEq, hr5]; refine ⟨_, hf1, ?_⟩; simp only [go_sem, Nat.reduceLT, Nat.reduceEqDiff, Nat.reduceAdd, Nat.reduceMul, Nat.reduceLeDiff, Nat.le_refl, reduceIte, reduceCtorEq, hr5]; refine η _ ?_; clear η κ
          refine d_opN (by kernel_rfl) fun κ η => ?_; simp only [go_sem, Nat.reduceLT, Nat.reduceEqDiff, Nat.reduceAdd, Nat.reduceMul, Nat.reduceLeDiff, Nat.le_refl, reduceIte, reduceCtorEq]; refine ⟨_, ha, ?_⟩; simp only [go_sem, Nat.reduceLT, Nat.reduceEqDiff, Nat.reduceAdd, Nat.reduceMul, Nat.reduceLeDiff, Nat.le_refl, reduceIte, reduceCtorEq]; refine η _ ?_; clear η κ
          repeat' first | refine c_seq ?_ | refine c_reg' rfl fun K E hK hE => ?_ | ((first | refine r_opN fun κ η => ?_ | refine d_opN (by kernel_rfl) fun κ η => ?_); simp only [go_sem, Nat.reduceLT, Nat.reduceEqDiff, Nat.reduceAdd, Nat.reduceMul, Nat.reduceLeDiff, Nat.le_refl, reduceIte, reduceCtorEq, hzA, j6]; (repeat refine ⟨by omega, ?_⟩); refine η _ ?_; clear η κ) | refine q_seq ?_ | (refine d_nil (hK _ ?_); clear hE hK E K)
          refine r_opN fun κ η => ?_; simp only [go_sem, Nat.reduceLT, Nat.reduceEqDiff, Nat.reduceAdd, Nat.reduceMul, Nat.reduceLeDiff, Nat.le_refl, reduceIte, reduceCtorEq]; refine ⟨_, hf2, ?_⟩; simp only [go_sem, Nat.reduceLT, Nat.reduceEqDiff, Nat.reduceAdd, Nat.reduceMul, Nat.reduceLeDiff, Nat.le_refl, reduceIte, reduceCtorEq]; refine η _ ?_; clear η κ
          repeat' first | (refine r_opN fun κ η => ?_; simp only [go_sem, Nat.reduceLT, Nat.reduceEqDiff, Nat.reduceAdd, Nat.reduceMul, Nat.reduceLeDiff, Nat.le_refl, reduceIte, reduceCtorEq, hzR]; (repeat refine ⟨by omega, ?_⟩); refine η _ ?_; clear η κ) | (refine r_nil (hK _ ?_); clear hE hK E K) | refine q_seq ?_ | refine c_ret ?_ | (refine q_ret ?_; refine q_r1 ?_; simp only [go_sem, Nat.reduceLT, Nat.reduceEqDiff, Nat.reduceAdd, Nat.reduceMul, Nat.reduceLeDiff, Nat.le_refl, reduceIte, reduceCtorEq, hzR])
        · repeat' first | refine c_seq ?_ | refine c_reg' rfl fun K E hK hE => ?_ | refine c_draw' rfl (by kernel_rfl) fun K E hK hE => ?_ | ((first | refine r_opN fun κ η => ?_ | refine d_opN (by kernel_rfl) fun κ η => ?_); simp only [go_sem, Nat.reduceLT, Nat.reduceEqDiff, Nat.reduceAdd, Nat.reduceMul, Nat.reduceLeDiff, Nat.le_refl, reduceIte, reduceCtorEq, j3, j5, j6]; refine η _ ?_; clear η κ) | (refine r_nil (hK _ ?_); clear hE hK E K) | refine q_seq ?_ | refine q_blk ?_
          refine d_opN (by kernel_rfl) fun κ η => ?_; simp only [go_sem, Nat.reduceLT, Nat.reduceEqDiff, Nat.reduceAdd, Nat.reduceMul, Nat.reduceLeDiff, Nat.le_refl, reduceIte, reduceCtorEq, hr5]; refine ⟨_, hf1, ?_⟩; simp only [go_sem, Nat.reduceLT, Nat.reduceEqDiff, Nat.reduceAdd, Nat.reduceMul, Nat.reduceLeDiff, Nat.le_refl, reduceIte, reduceCtorEq, hr5]; refine η _ ?_; clear η κ
          refine d_opN (by kernel_rfl) fun κ η => ?_; simp only [go_sem, Nat.reduceLT, Nat.reduceEqDiff, Nat.reduceAdd, Nat.reduceMul, Nat.reduceLeDiff, Nat.le_refl, reduceIte, reduceCtorEq]; refine ⟨_, ha, ?_⟩; simp only [go_sem, Nat.reduceLT, Nat.reduceEqDiff, Nat.reduceAdd, Nat.reduceMul, Nat.reduceLeDiff, Nat.le_refl, reduceIte, reduceCtorEq]; refine η _ ?_; clear η κ
          repeat' first | refine c_seq ?_ | refine c_reg' rfl fun K E hK hE => ?_ | ((first | refine r_opN fun κ η => ?_ | refine d_opN (by kernel_rfl) fun κ η => ?_); simp only [go_sem, Nat.reduceLT, Nat.reduceEqDiff, Nat.reduceAdd, Nat.reduceMul, Nat.reduceLeDiff, Nat.le_refl, reduceIte, reduceCtorEq, hzA, j6]; (repeat refine ⟨by omega, ?_⟩); refine η _ ?_; clear η κ) | refine q_seq ?_ | (refine d_nil (hK _ ?_); clear hE hK E K)
          refine r_opN fun κ η => ?_; simp only [go_sem, Nat.reduceLT, Nat.reduceEqDiff, Nat.reduceAdd, Nat.reduceMul, Nat.reduceLeDiff, Nat.le_refl, reduceIte, reduceCtorEq, hr6]; refine ⟨_, hf2, ?_⟩; simp only [go_sem, Nat.reduceLT, Nat.reduceEqDiff, Nat.reduceAdd, Nat.reduceMul, Nat.reduceLeDiff, Nat.le_refl, reduceIte, reduceCtorEq, hr6]; refine η _ ?_; clear η κ
          repeat' first | (refine r_opN fun κ η => ?_; simp only [go_sem, Nat.reduceLT, Nat.reduceEqDiff, Nat.reduceAdd, Nat.reduceMul, Nat.reduceLeDiff, Nat.le_refl, reduceIte, reduceCtorEq, hzR]; (repeat refine ⟨by omega, ?_⟩); refine η _ ?_; clear η κ) | (refine r_nil (hK _ ?_); clear hE hK E K) | refine q_seq ?_ | refine c_ret ?_ | (refine q_ret ?_; refine q_r1 ?_; simp only [go_sem, Nat.reduceLT, Nat.reduceEqDiff, Nat.reduceAdd, Nat.reduceMul, Nat.reduceLeDiff, Nat.le_refl, reduceIte, reduceCtorEq, hzR])
end Go.Proofs.YtfflfmpkjcomgaaDoor
