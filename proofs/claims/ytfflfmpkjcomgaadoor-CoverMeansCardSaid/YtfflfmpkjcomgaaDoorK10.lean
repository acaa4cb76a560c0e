import Derived.Test.YtfflfmpkjcomgaaDoorK9
namespace Go.Proofs.YtfflfmpkjcomgaaDoor
open Go.RowKit
set_option maxRecDepth 100000
set_option linter.unusedSimpArgs false
variable (Hy : World → Prop)
attribute [local irreducible] runM runD cwp seqQ blkQ lpQ retQ asQ bdQ bdY retP endR preD retD
/-- the literals that all rows have -/
def allHad (rows : List Row) (x : Li) : Bool := rows.all (hadB x)
def comL (rows : List Row) : List Li := (litsAt 0 (rows.headD [])).filter (allHad rows)
def cntW (rows : List Row) (x : Li) (b : Bool) (k : Nat) : Nat := (rows.take k).countP fun r => hadB x r == b
theorem cntW_succ {rows : List Row} {x : Li} {b : Bool} {k : Nat} {r : Row} (h : rows[k]? = some r) : cntW rows x b (k + 1) = cntW rows x b k + if hadB x r = b then 1 else 0 := by
  unfold cntW
  rw [List.take_add_one, h, List.countP_append]
  by_cases c : hadB x r = b
  · simp [c]
  · simp [c]
theorem cntW_le (rows : List Row) (x : Li) (b : Bool) (k : Nat) : cntW rows x b k ≤ rows.length := by
  unfold cntW
  have h1 := List.countP_le_length (p := fun r => hadB x r == b) (l := rows.take k)
  rw [List.length_take] at h1
  omega
theorem cntW_all {rows : List Row} {x : Li} : (cntW rows x false rows.length = 0) ↔ allHad rows x = true := by
  unfold cntW allHad
  rw [List.take_length, List.countP_eq_zero, List.all_eq_true]
  constructor
  · intro h r hr
    have := h r hr
    cases hb : hadB x r
    · rw [hb] at this; exact absurd rfl this
    · rfl
  · intro h r hr
    rw [h r hr]
    decide
/-- what stands in memory while rows are counted: a counter at 7 -/
structure CntI (oS : Nat → O) (rows : List Row) (x : Li) (b : Bool) (id : Nat) (g1 g2 g3 g gn : Nat) (k : Nat) (o : Nat → O) : Prop where
  h3 : o 6003 = ⟨g1, .cells 22 [.t (rL rows)]⟩
  h4 : o 6004 = ⟨g2, .cells 81 [.fn 99 [] [.ptr 6001 g 0]]⟩
  h5 : o 6005 = ⟨g3, .cells 4 [.t (.b b)]⟩
  h1 : o 6001 = ⟨g, .cells 86 [.t (.i .i64 x.p), .t (.i .i64 x.c.toNat)]⟩
  n : o id = ⟨gn, .cells 3 [.t (.i .i64 (cntW rows x b k))]⟩
  fr : Fr [6003, 6004, 6005, 6001, id] oS o
theorem CntI.get {oS : Nat → O} {rows : List Row} {x : Li} {b : Bool} {id g1 g2 g3 g gn k : Nat} {o : Nat → O} (h : CntI oS rows x b id g1 g2 g3 g gn k o) : o 6003 = ⟨g1, .cells 22 [.t (rL rows)]⟩ ∧ o 6004 = ⟨g2, .cells 81 [.fn 99 [] [.ptr 6001 g 0]]⟩ ∧ o 6005 = ⟨g3, .cells 4 [.t (.b b)]⟩ ∧ o 6001 = ⟨g, .cells 86 [.t (.i .i64 x.p), .t (.i .i64 x.c.toNat)]⟩ := ⟨h.h3, h.h4, h.h5, h.h1⟩
theorem CntI.no {oS : Nat → O} {rows : List Row} {x : Li} {b : Bool} {id g1 g2 g3 g gn : Nat} (k : Nat) (o : Nat → O) (r : Row) (hr : rows[k]? = some r) (hb : hadB x r ≠ b) (h : CntI oS rows x b id g1 g2 g3 g gn k o) : CntI oS rows x b id g1 g2 g3 g gn (k + 1) o :=
  ⟨h.h3, h.h4, h.h5, h.h1, by rw [cntW_succ hr, if_neg hb]; exact h.n, h.fr⟩
theorem CntI.up {oS : Nat → O} {rows : List Row} {x : Li} {b : Bool} {id g1 g2 g3 g gn k : Nat} {o o2 : Nat → O} {r : Row} (hid : id < 6000) (hr : rows[k]? = some r) (hb : hadB x r = b) (h : CntI oS rows x b id g1 g2 g3 g gn k o)
    (h2 : o2 id = ⟨gn, .cells 3 [.t (.i .i64 ((cntW rows x b k : Nat) + 1))]⟩) (hf : Fr [id] o o2) : CntI oS rows x b id g1 g2 g3 g gn (k + 1) o2 :=
  ⟨by rw [hf _ (by simp; omega)]; exact h.h3, by rw [hf _ (by simp; omega)]; exact h.h4, by rw [hf _ (by simp; omega)]; exact h.h5, by rw [hf _ (by simp; omega)]; exact h.h1, by rw [h2, cntW_succ hr, if_pos hb]; rfl, h.fr.trans fun i hi => hf i fun e => hi (by
    rw [List.mem_singleton] at e
    simp [e])⟩
set_option maxHeartbeats 4000000 in
theorem common_ct (rows : List Row) (hne : rows ≠ []) (hl : rows.length ≤ 1000000) (n : Nat) (hn : ∀ r ∈ rows, r.length = n) (hn2 : n ≤ 1000000) : Ct Tryd.prog Hy 50 [rL rows] [lL (comL rows)] := by
  obtain ⟨r0, rs, rfl⟩ := List.exists_cons_of_ne_nil hne
  generalize hrows : r0 :: rs = rows at *
  have h0 : rows[0]? = some r0 := by rw [← hrows]; rfl
  have hr0 := hn r0 (List.mem_of_getElem? h0)
  have hcom : comL rows = (litsAt 0 r0).filter (allHad rows) := by rw [← hrows]; rfl
  have hlit := literals2_ct Hy r0 (by omega)
  have hll := litsAt_len r0 0
  have hpl : ∀ x ∈ litsAt 0 r0, x.p < n := fun x hx => by
    have key : ∀ (r : Row) (i : Nat), ∀ x ∈ litsAt i r, x.p < i + r.length := fun r => by
      induction r with
      | nil => intro i x hx; cases hx
      | cons c r ih =>
        intro i x hx
        simp only [litsAt] at hx
        rw [List.length_cons]
        split at hx
        · have := ih _ x hx; omega
        · rcases List.mem_cons.1 hx with rfl | hx
          · show i < _; omega
          · have := ih _ x hx; omega
    have := key r0 0 x hx
    omega
  rw [hcom]
  generalize litsAt 0 r0 = ls at *
  simp only [lL] at hlit
  refine ct_of (cls := _root_.id) tt_ok follows_ Tryd.func50 rfl (by decide) (Nat.le_of_ble_eq_true rfl) ?_
  rw [show Tryd.f50.ntmps = 33 from rfl, s0_nf]
  simp only [List.zipIdx_cons, List.zipIdx_nil, List.map_cons, List.map_nil, Nat.reduceAdd, rL]
  repeat' first | refine c_seq ?_ | refine c_reg' rfl fun K E hK hE => ?_ | (refine r_opN fun κ η => ?_; simp only [go_sem, Nat.reduceLT, Nat.reduceEqDiff, Nat.reduceAdd, Nat.reduceMul, Nat.reduceLeDiff, Nat.le_refl, reduceIte, reduceCtorEq, h0]; (repeat refine ⟨by omega, ?_⟩); refine η _ ?_; clear η κ) | (refine r_nil (hK _ ?_); clear hE hK E K) | refine q_seq ?_
  refine r_opN fun κ η => ?_; simp only [go_sem, Nat.reduceLT, Nat.reduceEqDiff, Nat.reduceAdd, Nat.reduceMul, Nat.reduceLeDiff, Nat.le_refl, reduceIte, reduceCtorEq]; refine ⟨_, hlit, ?_⟩; simp only [go_sem, Nat.reduceLT, Nat.reduceEqDiff, Nat.reduceAdd, Nat.reduceMul, Nat.reduceLeDiff, Nat.le_refl, reduceIte, reduceCtorEq]; refine η _ ?_; clear η κ
  repeat' first | refine c_block ?_ | (refine r_opN fun κ η => ?_; simp only [go_sem, Nat.reduceLT, Nat.reduceEqDiff, Nat.reduceAdd, Nat.reduceMul, Nat.reduceLeDiff, Nat.le_refl, reduceIte, reduceCtorEq]; refine η _ ?_; clear η κ) | (refine r_nil (hK _ ?_); clear hE hK E K) | refine q_seq ?_
  refine c_loop (fun m s' => ∃ k : Nat, m = ls.length - k ∧ k ≤ ls.length ∧ ∃ F G0 xx, s' = nf 33 F G0 [(0, .t (rL rows)), (3, xx), (11, .t (lL ls)), (12, .t (.i .i64 ls.length)), (13, .t (.i .i64 k))] [] ∧ Acc G0 30 86 2 (((ls.take k).filter (allHad rows)).map lE) xx) ls.length ?_ ?_
  · exact ⟨0, by omega, by omega, _, _, _, nf_of rfl ⟨rfl, rfl, rfl, rfl, rfl, trivial⟩ trivial, .inl ⟨rfl, rfl⟩⟩
  rintro m s' ⟨k, rfl, hk, F, G0, xx, rfl, hx⟩
  simp only [lL, rL]
  repeat' first | refine c_seq ?_ | refine c_reg' rfl fun K E hK hE => ?_ | (refine r_opN fun κ η => ?_; simp only [go_sem, Nat.reduceLT, Nat.reduceEqDiff, Nat.reduceAdd, Nat.reduceMul, Nat.reduceLeDiff, Nat.le_refl, reduceIte, reduceCtorEq]; refine η _ ?_; clear η κ) | (refine r_nil (hK _ ?_); clear hE hK E K) | refine q_seq ?_
  refine c_cond _ rfl (fun hq => ?_) (fun hq => ?_)
  · simp only [decide_eq_true_eq] at hq
    obtain ⟨x, hxk⟩ : ∃ x, ls[k]? = some x := ⟨_, List.getElem?_eq_getElem (by omega)⟩
    have hxp := hpl x (List.mem_of_getElem? hxk)
    have hhad := fun o => had_cm Hy (o := o) x
    repeat' first | refine c_seq ?_ | refine c_block ?_ | refine c_reg' rfl fun K E hK hE => ?_ | (refine r_opN fun κ η => ?_; simp only [go_sem, Nat.reduceLT, Nat.reduceEqDiff, Nat.reduceAdd, Nat.reduceMul, Nat.reduceLeDiff, Nat.le_refl, reduceIte, reduceCtorEq, hxk]; (repeat refine ⟨by omega, ?_⟩); refine η _ ?_; clear η κ) | (refine r_nil (hK _ ?_); clear hE hK E K) | refine q_seq ?_ | refine c_skip ?_
    refine r_call fun κ η => ?_; simp only [go_sem, Nat.reduceLT, Nat.reduceEqDiff, Nat.reduceAdd, Nat.reduceMul, Nat.reduceLeDiff, Nat.le_refl, reduceIte, reduceCtorEq]; refine ⟨_, hhad _, ?_⟩; rintro _ o2 ⟨g, rfl, h1, hF⟩; simp only [go_sem, Nat.reduceLT, Nat.reduceEqDiff, Nat.reduceAdd, Nat.reduceMul, Nat.reduceLeDiff, Nat.le_refl, reduceIte, reduceCtorEq]; refine η _ ?_; clear η κ
    repeat' first | refine c_seq ?_ | refine c_reg' rfl fun K E hK hE => ?_ | (refine r_opN fun κ η => ?_; simp only [go_sem, Nat.reduceLT, Nat.reduceEqDiff, Nat.reduceAdd, Nat.reduceMul, Nat.reduceLeDiff, Nat.le_refl, reduceIte, reduceCtorEq]; refine η _ ?_; clear η κ) | (refine r_nil (hK _ ?_); clear hE hK E K) | refine q_seq ?_
    refine r_call fun κ η => ?_; simp only [go_sem, Nat.reduceLT, Nat.reduceEqDiff, Nat.reduceAdd, Nat.reduceMul, Nat.reduceLeDiff, Nat.le_refl, reduceIte, reduceCtorEq]; refine ⟨_, which_cm Hy rows g false, ?_⟩; rintro _ o3 ⟨g1, g2, g3, rfl, h3, h4, h5, hF3⟩; simp only [go_sem, Nat.reduceLT, Nat.reduceEqDiff, Nat.reduceAdd, Nat.reduceMul, Nat.reduceLeDiff, Nat.le_refl, reduceIte, reduceCtorEq]; refine η _ ?_; clear η κ
    have hxl : ∀ r ∈ rows, x.p < r.length := fun r hr => by rw [hn r hr]; exact hxp
    have hst : (ls.take (k + 1)).filter (allHad rows) = (ls.take k).filter (allHad rows) ++ if allHad rows x = true then [x] else [] := by
      rw [List.take_add_one, hxk, List.filter_append]
      cases c : allHad rows x <;> simp [c]
    repeat' first | refine c_block ?_ | (refine r_nil (hK _ ?_); clear hE hK E K) | refine q_seq ?_
    refine c_rangeY (YW rows x false (CntI o3 rows x false 7 g1 g2 g3 g ((o2 7).gen + 1))) _ rfl (fun lb => which_it Hy hl hxl (fun k o h => h.get) CntI.no ?_ lb) (fun args o1 Rb hy => ?_) (fun rs o' hr => ?_)
    · exact ⟨h3, h4, h5, (hF3 6001 (by simp)).trans h1, (hF3 7 (by simp)).trans (by simp [cntW]; rfl), Fr.refl _ _⟩
    · obtain ⟨j, r, rfl, hrk, hb, hi, hRb⟩ := hy
      refine ⟨rfl, ?_⟩
      have hcn := hi.n
      have hle := cntW_le rows x false j
      simp only [go_sem]
      repeat' refine c_skip ?_
      refine q_as ?_
      repeat' first | refine c_block ?_ | refine c_reg' rfl fun K E hK hE => ?_ | (refine r_opN fun κ η => ?_; simp only [go_sem, Nat.reduceLT, Nat.reduceEqDiff, Nat.reduceAdd, Nat.reduceMul, Nat.reduceLeDiff, Nat.le_refl, reduceIte, reduceCtorEq, hcn]; (repeat refine ⟨by omega, ?_⟩); refine η _ ?_; clear η κ) | (refine r_nil (hK _ ?_); clear hE hK E K) | refine q_blk ?_
      exact q_by (hRb _ (hi.up (by decide) hrk hb rfl (fr_nf (by simp))))
    · obtain ⟨rfl, hr⟩ := hr
      have hcn := hr.n
      have h5x : o' 5 = ⟨(G0 5).gen + 1, .cells 86 [.t (.i .i64 x.p), .t (.i .i64 x.c.toNat)]⟩ := (hr.fr 5 (by simp)).trans ((hF3 5 (by simp)).trans ((hF 5 (by simp)).trans rfl))
      have h30 : o' 30 = G0 30 := (hr.fr 30 (by simp)).trans ((hF3 30 (by simp)).trans ((hF 30 (by simp)).trans rfl))
      repeat' first | refine c_seq ?_ | refine c_reg' rfl fun K E hK hE => ?_ | (refine r_opN fun κ η => ?_; simp only [go_sem, Nat.reduceLT, Nat.reduceEqDiff, Nat.reduceAdd, Nat.reduceMul, Nat.reduceLeDiff, Nat.le_refl, reduceIte, reduceCtorEq, hcn]; refine η _ ?_; clear η κ) | (refine r_nil (hK _ ?_); clear hE hK E K) | refine q_seq ?_ | refine q_blk ?_
      by_cases ca : allHad rows x = true
      · rw [if_pos ca] at hst
        have hz0 : cntW rows x false rows.length = 0 := cntW_all.2 ca
        refine c_cond _ rfl (fun hq => ?_) (fun hq => (by simp [hz0] at hq))
        have hs : ((ls.take (k + 1)).filter (allHad rows)).map lE = ((ls.take k).filter (allHad rows)).map lE ++ [[.i .i64 x.p, .i .i64 x.c.toNat]] := by rw [hst, List.map_append]; rfl
        have hlen : (((ls.take k).filter (allHad rows)).map lE).length ≤ 1000000 := by
          have := List.length_filter_le (allHad rows) (ls.take k)
          rw [List.length_take] at this
          rw [List.length_map]
          omega
        rcases hx with ⟨h0, rfl⟩ | ⟨q, rfl, hr2⟩
        · rw [h0] at hs
          repeat' first | refine c_reg' rfl fun K E hK hE => ?_ | (refine r_opN fun κ η => ?_; simp only [go_sem, Nat.reduceLT, Nat.reduceEqDiff, Nat.reduceAdd, Nat.reduceMul, Nat.reduceLeDiff, Nat.le_refl, reduceIte, reduceCtorEq, h5x]; (repeat refine ⟨by omega, ?_⟩); refine η _ ?_; clear η κ) | (refine r_nil (hK _ ?_); clear hE hK E K) | refine q_seq ?_ | refine q_blk ?_ | refine q_lpN ?_
          exact ⟨ls.length - (k + 1), by omega, k + 1, rfl, by omega, _, _, _, nf_of rfl ⟨rfl, rfl, rfl, rfl, rfl, trivial⟩ trivial, .inr ⟨_, rfl, by rw [hs]; rfl⟩⟩
        · rw [← h30] at hr2
          generalize (((ls.take k).filter (allHad rows)).map lE) = rw0 at hr2 hs hlen
          repeat' first | refine c_reg' rfl fun K E hK hE => ?_ | (refine r_opN fun κ η => ?_; simp only [go_sem, Nat.reduceLT, Nat.reduceEqDiff, Nat.reduceAdd, Nat.reduceMul, Nat.reduceLeDiff, Nat.le_refl, reduceIte, reduceCtorEq, h5x, hr2]; (repeat refine ⟨by omega, ?_⟩); refine η _ ?_; clear η κ) | (refine r_nil (hK _ ?_); clear hE hK E K) | refine q_seq ?_ | refine q_blk ?_ | refine q_lpN ?_
          exact ⟨ls.length - (k + 1), by omega, k + 1, rfl, by omega, _, _, _, nf_of rfl ⟨rfl, rfl, rfl, rfl, rfl, trivial⟩ trivial, .inr ⟨_, rfl, by rw [hs]; rfl⟩⟩
      · rw [if_neg ca, List.append_nil] at hst
        have hz0 : ((cntW rows x false rows.length : Nat) : Int) ≠ 0 := fun e => ca (cntW_all.1 (by omega))
        refine c_cond _ rfl (fun hq => (by simp only [decide_eq_true_eq] at hq; exact absurd hq hz0)) (fun hq => ?_)
        repeat' first | refine c_reg' rfl fun K E hK hE => ?_ | (refine r_opN fun κ η => ?_; simp only [go_sem, Nat.reduceLT, Nat.reduceEqDiff, Nat.reduceAdd, Nat.reduceMul, Nat.reduceLeDiff, Nat.le_refl, reduceIte, reduceCtorEq]; (repeat refine ⟨by omega, ?_⟩); refine η _ ?_; clear η κ) | (refine r_nil (hK _ ?_); clear hE hK E K) | refine q_seq ?_ | refine q_blk ?_ | refine c_skip ?_ | refine q_lpN ?_
        refine ⟨ls.length - (k + 1), by omega, k + 1, rfl, by omega, _, _, _, nf_of rfl ⟨rfl, rfl, rfl, rfl, rfl, trivial⟩ trivial, ?_⟩
        rw [hst]
        rcases hx with h | ⟨q, e, h⟩
        · exact .inl h
        · exact .inr ⟨q, e, h30.trans h⟩
  · simp only [decide_eq_false_iff_not] at hq
    rw [List.take_of_length_le (by omega)] at hx
    have hz := li2 (ls.filter (allHad rows))
    rcases hx with ⟨h0, rfl⟩ | ⟨q, rfl, hr⟩
    · have : ls.filter (allHad rows) = [] := List.map_eq_nil_iff.1 h0
      rw [this]
      repeat' first | refine c_seq ?_ | refine c_reg' rfl fun K E hK hE => ?_ | (refine r_opN fun κ η => ?_; simp only [go_sem, Nat.reduceLT, Nat.reduceEqDiff, Nat.reduceAdd, Nat.reduceMul, Nat.reduceLeDiff, Nat.le_refl, reduceIte, reduceCtorEq]; refine η _ ?_; clear η κ) | (refine r_nil (hK _ ?_); clear hE hK E K) | refine q_seq ?_ | refine c_exit ?_ | refine c_ret ?_ | refine q_seqE ?_ | refine q_blkHit ?_ | refine q_lpE ?_ | (refine q_ret ?_; refine q_r1 ?_; simp only [go_sem, Nat.reduceLT, Nat.reduceEqDiff, Nat.reduceAdd, Nat.reduceMul, Nat.reduceLeDiff, Nat.le_refl, reduceIte, reduceCtorEq])
    · have hr : G0 30 = ⟨q, .row 86 2 ((ls.filter (allHad rows)).map fun x => [T.i .i64 x.p, T.i .i64 x.c.toNat])⟩ := hr
      repeat' first | refine c_seq ?_ | refine c_reg' rfl fun K E hK hE => ?_ | (refine r_opN fun κ η => ?_; simp only [go_sem, Nat.reduceLT, Nat.reduceEqDiff, Nat.reduceAdd, Nat.reduceMul, Nat.reduceLeDiff, Nat.le_refl, reduceIte, reduceCtorEq, hr]; refine η _ ?_; clear η κ) | (refine r_nil (hK _ ?_); clear hE hK E K) | refine q_seq ?_ | refine c_exit ?_ | refine c_ret ?_ | refine q_seqE ?_ | refine q_blkHit ?_ | refine q_lpE ?_ | (refine q_ret ?_; refine q_r1 ?_; simp only [go_sem, Nat.reduceLT, Nat.reduceEqDiff, Nat.reduceAdd, Nat.reduceMul, Nat.reduceLeDiff, Nat.le_refl, reduceIte, reduceCtorEq, hr])
end Go.Proofs.YtfflfmpkjcomgaaDoor
