import Derived.Test.YtfflfmpkjcomgaaH3
namespace Go.Proofs.Ytfflfmpkjcomgaa
open Go.RowKit
set_option maxRecDepth 100000
set_option linter.unusedSimpArgs false
variable (Hy : World → Prop)
attribute [local irreducible] runM runD cwp seqQ blkQ lpQ retQ asQ bdQ bdY retP
theorem goesOn_cm {o : Nat → O} : Cm Try.prog Hy 65 [.ptr 900 1 0] o fun rs o' => rs = [.fn 78 [] [.ptr 911 ((o 911).gen + 1) 0]] ∧ o' 911 = ⟨(o 911).gen + 1, .cells 47 [.ptr 900 1 0]⟩ ∧ Fr [911] o o' := by
  refine cm_of (cls := fun _ => 911) tt_ok follows_ Try.func65 rfl (by decide) (Nat.le_of_ble_eq_true rfl) ?_
  rw [show Try.f65.ntmps = 4 from rfl, s0_nf]
  simp only [List.zipIdx_cons, List.zipIdx_nil, List.map_cons, List.map_nil, Nat.reduceAdd]
  repeat' first | refine c_seq ?_ | refine c_reg' rfl fun K E hK hE => ?_ | (refine r_opN fun κ η => ?_; simp only [go_sem, Nat.reduceLT, Nat.reduceEqDiff, Nat.reduceAdd, Nat.reduceMul, Nat.reduceLeDiff, Nat.le_refl, reduceIte, reduceCtorEq]; refine η _ ?_; clear η κ) | (refine r_nil (hK _ ?_); clear hE hK E K) | refine q_seq ?_ | refine c_ret ?_ | (refine q_ret ?_; refine q_r1 ?_; simp only [go_sem, Nat.reduceLT, Nat.reduceEqDiff, Nat.reduceAdd, Nat.reduceMul, Nat.reduceLeDiff, Nat.le_refl, reduceIte, reduceCtorEq])
  exact fr_nf (by simp)
theorem Prv.lf1 {o o' : Nat → O} {p q : Pv} {g1 g2 g5 : Nat} {hg : Int → Nat} (hP : Prv o p g1 g2 g5 hg) (hq : q = { p with lf := q.lf }) (hb : o' 902 = ⟨g2, .row 3 1 (q.lf.map fun x => [.i .i64 x])⟩) (h : ∀ i, i ≠ 902 → o' i = o i) : Prv o' q g1 g2 g5 hg := by
  obtain ⟨h1, h2, h3, h4, h5, h6, h7⟩ := hP
  rw [hq]
  exact ⟨by rw [h _ (by decide)]; exact h1, by rw [h _ (by decide)]; exact h2, hb, by rw [h _ (by decide)]; exact h4, fun x hx => by rw [h _ (by have := hid_ge x; omega)]; exact h5 x hx, by rw [h _ (by decide)]; exact h6, by rw [h _ (by decide)]; exact h7⟩
def Fit (p : Pv) : Prop := p.cs.length ≤ 1000000 ∧ ∀ c ∈ p.cs, c.length ≤ 1000000
set_option maxHeartbeats 4000000 in
theorem propagate_cm {V : Int} {G : Int → Prop} {o : Nat → O} {p0 : Pv} {g1 g2 g5 : Nat} {hg : Int → Nat} (hV : 0 ≤ V ∧ V ≤ 20000) (hP : Prv o p0 g1 g2 g5 hg) (hw : Wf V p0) (hs : Sat p0) (hsn : Snd p0 G) (hfit : Fit p0) :
    Cm Try.prog Hy 48 [.ptr 900 1 0] o fun rs o' => rs = [] ∧ ∃ p' g, Prv o' p' g1 g2 g hg ∧ Good V G p0 p' ∧ (p'.cf = true ∨ p'.wn = p'.tr.length) ∧ Fr idsP o o' := by
  have hgood : Good V G p0 p0 := ⟨hw, hs, hsn, rfl, rfl, rfl, ⟨[], (List.append_nil _).symm⟩, Int.le_refl _, id⟩
  have hmR := mlawR
  refine cm_of (cls := fun _ => 910) tt_ok follows_ Try.func48 rfl (by decide) (Nat.le_of_ble_eq_true rfl) ?_
  rw [show Try.f48.ntmps = 41 from rfl, s0_nf]
  simp only [List.zipIdx_cons, List.zipIdx_nil, List.map_cons, List.map_nil, Nat.reduceAdd]
  repeat' first | refine c_seq ?_ | refine c_reg' rfl fun K E hK hE => ?_ | (refine r_opN fun κ η => ?_; simp only [go_sem, Nat.reduceLT, Nat.reduceEqDiff, Nat.reduceAdd, Nat.reduceMul, Nat.reduceLeDiff, Nat.le_refl, reduceIte, reduceCtorEq]; refine η _ ?_; clear η κ) | (refine r_nil (hK _ ?_); clear hE hK E K) | refine q_seq ?_
  refine r_call fun κ η => ?_; simp only [go_sem, Nat.reduceLT, Nat.reduceEqDiff, Nat.reduceAdd, Nat.reduceMul, Nat.reduceLeDiff, Nat.le_refl, reduceIte, reduceCtorEq]; refine ⟨_, goesOn_cm Hy, ?_⟩; rintro _ o2 ⟨rfl, h11, hF2⟩; simp only [go_sem, Nat.reduceLT, Nat.reduceEqDiff, Nat.reduceAdd, Nat.reduceMul, Nat.reduceLeDiff, Nat.le_refl, reduceIte, reduceCtorEq]; refine η _ ?_; clear η κ
  have h10 : o2 910 = ⟨(o 910).gen + 1, .cells 47 [.ptr 900 1 0]⟩ := (hF2 910 (by simp)).trans rfl
  have hF : Fr idsP o o2 := (fr_nf (by simp [idsP]) : Fr idsP o (nf 41 (fun _ => A.junk) o [] [(910, _)]).o).trans (hF2.mono (by simp [idsP]))
  replace hP := (hP.fr (fr_nf (by simp) : Fr [910] o (nf 41 (fun _ => A.junk) o [] [(910, _)]).o) (by simp)).fr hF2 (by simp)
  repeat' first | refine c_block ?_ | (refine r_nil (hK _ ?_); clear hE hK E K) | refine q_seq ?_
  refine c_rangeY (YP V G p0 g1 g2 hg o _ _) _ rfl (fun l => goesOn_it Hy hV hP hgood hF h11 h10 l) (fun args o1 Rb hy => ?_) (fun rs o' hr => ?_)
  · obtain ⟨p, x, g, rfl, hP, hgood, hcf, hx, hF, h11, h10, hRb⟩ := hy
    refine ⟨rfl, ?_⟩
    have hlx : LitV V x := hgood.w.tb x (List.mem_of_getElem? hx)
    have hlx6 : Lit64 (0 - x) := by unfold LitV at hlx; unfold Lit64; omega
    have hw : IntKind.wrap .i64 (0 - x) = 0 - x := inR_wrap (by simp only [inR]; unfold LitV at hlx; omega)
    have hk := kyok hlx6
    have hget := hasM_get p.hk hg (0 - x)
    have hhv := hgood.w.hv (0 - x)
    have hz := mid_zero hgood hx
    have hbb := hP.b
    have hhh := hP.h
    simp only [ky] at hk hget
    simp only [go_sem]
    repeat' first | refine c_reg' rfl fun K E hK hE => ?_ | (refine r_opN fun κ η => ?_; simp only [go_sem, Nat.reduceLT, Nat.reduceEqDiff, Nat.reduceAdd, Nat.reduceMul, Nat.reduceLeDiff, Nat.le_refl, reduceIte, reduceCtorEq]; refine η _ ?_; clear η κ) | (refine r_nil (hK _ ?_); clear hE hK E K)
    refine q_as ?_
    by_cases hin : 0 - x ∈ p.hk
    · rw [if_pos hin] at hget
      have hrr := hP.r _ hin
      unfold hasOf at hhv
      rw [if_pos hin] at hhv
      have hvl : (p.hv (0 - x)).length ≤ 1000000 := by
        rw [hhv]
        unfold whereIs
        rw [List.length_map]
        have h1 := List.length_filter_le (fun n => decide (0 - x ∈ p.cs.getD n [])) (List.range p.cs.length)
        rw [List.length_range] at h1
        have h2 := hfit.1
        rw [← hgood.cs] at h2
        omega
      repeat' first | refine c_seq ?_ | refine c_block ?_ | refine c_reg' rfl fun K E hK hE => ?_ | (refine r_opN fun κ η => ?_; simp only [go_sem, Nat.reduceLT, Nat.reduceEqDiff, Nat.reduceAdd, Nat.reduceMul, Nat.reduceLeDiff, Nat.le_refl, reduceIte, reduceCtorEq, h10, hbb, hhh, hw, hget, hrr]; (repeat refine ⟨by omega, ?_⟩); refine η _ ?_; clear η κ) | (refine r_nil (hK _ ?_); clear hE hK E K) | refine q_seq ?_
      refine c_loop (fun m s' => ∃ k q F oc g, m = (p.hv (0 - x)).length - k ∧ k ≤ (p.hv (0 - x)).length ∧ s' = nf 41 F oc [(1, .ptr 910 ((o 910).gen + 1) 0), (14, .row (hid (0 - x)) (hg (0 - x))), (15, .t (.i .i64 (p.hv (0 - x)).length)), (16, .t (.i .i64 (k : Nat)))] [] ∧ Mid V G p x k q ∧ Prv oc q g1 g2 g hg ∧ Fr idsP o oc ∧ oc 911 = ⟨(o 911).gen + 1, .cells 47 [.ptr 900 1 0]⟩ ∧ oc 910 = ⟨(o 910).gen + 1, .cells 47 [.ptr 900 1 0]⟩) (p.hv (0 - x)).length ?_ ?_
      · exact ⟨0, _, _, _, g, by omega, by omega, nf_of rfl ⟨rfl, rfl, rfl, rfl, trivial⟩ trivial, hz, hP, hF, h11, h10⟩
      clear hbb hhh hrr hP hF h11 h10 hget g
      rintro m s' ⟨k, q, F, oc, g, rfl, hk, rfl, hmid, hP, hF, h11, h10⟩
      have hbb := hP.b
      have hll := hP.l
      have hrr := hP.r (0 - x) (by rw [hmid.hk]; exact hin)
      rw [hmid.hv] at hrr
      repeat' first | refine c_seq ?_ | refine c_reg' rfl fun K E hK hE => ?_ | (refine r_opN fun κ η => ?_; simp only [go_sem, Nat.reduceLT, Nat.reduceEqDiff, Nat.reduceAdd, Nat.reduceMul, Nat.reduceLeDiff, Nat.le_refl, reduceIte, reduceCtorEq]; refine η _ ?_; clear η κ) | (refine r_nil (hK _ ?_); clear hE hK E K) | refine q_seq ?_
      refine c_cond _ rfl (fun hq => ?_) (fun hq => ?_)
      · simp only [decide_eq_true_eq] at hq
        obtain ⟨n, hn⟩ : ∃ n, (p.hv (0 - x))[k]? = some n := ⟨_, List.getElem?_eq_getElem (by omega)⟩
        obtain ⟨j, rfl, _⟩ := where_mem.1 (hhv ▸ List.mem_of_getElem? hn)
        obtain ⟨c, hc, _, hlf, hcn, hstep⟩ := mid_step hgood hx hmid (hhv ▸ hn)
        rw [Int.toNat_natCast] at hc hlf hstep
        have hjl := (List.getElem?_eq_some_iff.1 hlf).1
        have hcl := hfit.2 c (by rw [← hgood.cs]; exact List.mem_of_getElem? hc)
        have hct : cnt (p.tr.take p.wn.toNat) c ≤ c.length := cnt_le
        generalize hvv : (cnt (p.tr.take p.wn.toNat) c : Int) = v0 at *
        generalize hvw : cnt (p.tr.take p.wn.toNat ++ [x]) c = v1 at *
        have hq1 := hstep _ rfl
        have hset : (q.lf.map fun x => [T.i .i64 x]).set j [.i .i64 (v1 : Int)] = (q.lf.set j (v1 : Int)).map fun x => [T.i .i64 x] := by rw [List.map_set]
        have hl2 : (q.lf.set j (v1 : Int))[j]? = some (v1 : Int) := by rw [List.getElem?_set, if_pos rfl, if_pos hjl]
        repeat' first | refine c_seq ?_ | refine c_block ?_ | refine c_reg' rfl fun K E hK hE => ?_ | (refine r_opN fun κ η => ?_; simp only [go_sem, Nat.reduceLT, Nat.reduceEqDiff, Nat.reduceAdd, Nat.reduceMul, Nat.reduceLeDiff, Nat.le_refl, reduceIte, reduceCtorEq, hrr, hn, h10, hbb, hll, hlf, hcn, hset, hl2, List.length_set]; (repeat refine ⟨by omega, ?_⟩); refine η _ ?_; clear η κ) | (refine r_nil (hK _ ?_); clear hE hK E K) | refine q_seq ?_ | refine c_skip ?_
        have hP1 : Prv (nf 41 F oc [] [(902, ⟨g2, .row 3 1 ((q.lf.set j (v1 : Int)).map fun x => [.i .i64 x])⟩)]).o { q with lf := q.lf.set j (v1 : Int) } g1 g2 g hg := hP.lf1 rfl rfl fun i hi => lookO_other (by simp; omega)
        have hF1 : Fr idsP o (nf 41 F oc [] [(902, ⟨g2, .row 3 1 ((q.lf.set j (v1 : Int)).map fun x => [.i .i64 x])⟩)]).o := hF.trans (fr_nf (by simp [idsP]))
        refine c_cond _ rfl (fun hq2 => ?_) (fun hq2 => ?_)
        · simp only [decide_eq_true_eq] at hq2
          rw [if_pos (by omega)] at hq1
          repeat' first | refine c_reg' rfl fun K E hK hE => ?_ | (refine r_opN fun κ η => ?_; simp only [go_sem, Nat.reduceLT, Nat.reduceEqDiff, Nat.reduceAdd, Nat.reduceMul, Nat.reduceLeDiff, Nat.le_refl, reduceIte, reduceCtorEq, h10]; refine η _ ?_; clear η κ)
          refine r_call fun κ η => ?_; simp only [go_sem, Nat.reduceLT, Nat.reduceEqDiff, Nat.reduceAdd, Nat.reduceMul, Nat.reduceLeDiff, Nat.le_refl, reduceIte, reduceCtorEq]; refine ⟨_, last_cm Hy hP1 j c (by rw [show ({ q with lf := q.lf.set j (v1 : Int) } : Pv).cs = q.cs from rfl, hmid.cs]; exact hc) (fun y hy => by have := (hgood.w.cl c (List.mem_of_getElem? hc)).2 y hy; unfold LitV at this; unfold Lit64; omega) hcl (by have := lits_len hmid.wt.tn hmid.wt.tb hV.1; show q.tr.length ≤ _; omega), ?_⟩; rintro _ o3 ⟨rfl, ⟨g', hP3⟩, hF3⟩; simp only [go_sem, Nat.reduceLT, Nat.reduceEqDiff, Nat.reduceAdd, Nat.reduceMul, Nat.reduceLeDiff, Nat.le_refl, reduceIte, reduceCtorEq]; refine η _ ?_; clear η κ
          repeat' first | refine c_reg' rfl fun K E hK hE => ?_ | (refine r_opN fun κ η => ?_; simp only [go_sem, Nat.reduceLT, Nat.reduceEqDiff, Nat.reduceAdd, Nat.reduceMul, Nat.reduceLeDiff, Nat.le_refl, reduceIte, reduceCtorEq]; (repeat refine ⟨by omega, ?_⟩); refine η _ ?_; clear η κ) | (refine r_nil (hK _ ?_); clear hE hK E K) | refine q_seq ?_ | refine q_blk ?_ | refine q_lpN ?_
          exact ⟨(p.hv (0 - x)).length - (k + 1), by omega, k + 1, _, _, _, g', rfl, by omega, nf_of rfl ⟨rfl, rfl, rfl, rfl, trivial⟩ trivial, hq1, hP3, hF1.trans (hF3.mono (by simp [idsP])), (hF3 911 (by simp)).trans h11, (hF3 910 (by simp)).trans h10⟩
        · simp only [decide_eq_false_iff_not] at hq2
          rw [if_neg (by omega)] at hq1
          repeat' first | refine c_reg' rfl fun K E hK hE => ?_ | (refine r_opN fun κ η => ?_; simp only [go_sem, Nat.reduceLT, Nat.reduceEqDiff, Nat.reduceAdd, Nat.reduceMul, Nat.reduceLeDiff, Nat.le_refl, reduceIte, reduceCtorEq]; (repeat refine ⟨by omega, ?_⟩); refine η _ ?_; clear η κ) | (refine r_nil (hK _ ?_); clear hE hK E K) | refine q_seq ?_ | refine q_blk ?_ | refine c_skip ?_ | refine q_lpN ?_
          exact ⟨(p.hv (0 - x)).length - (k + 1), by omega, k + 1, _, _, _, g, rfl, by omega, nf_of rfl ⟨rfl, rfl, rfl, rfl, trivial⟩ trivial, hq1, hP1, hF1, h11, h10⟩
      · simp only [decide_eq_false_iff_not] at hq
        obtain ⟨e1, e2⟩ := mid_end hgood hx (k := k) (by rw [← hhv]; omega) hmid
        repeat' first | refine q_blk ?_ | refine c_exit ?_ | refine q_seqE ?_ | refine q_blkHit ?_ | refine q_lpE ?_
        exact q_by (hRb _ _ _ hP e1 e2 hF h11 h10)
    · rw [if_neg hin] at hget
      unfold hasOf at hhv
      rw [if_neg hin] at hhv
      repeat' first | refine c_seq ?_ | refine c_block ?_ | refine c_reg' rfl fun K E hK hE => ?_ | (refine r_opN fun κ η => ?_; simp only [go_sem, Nat.reduceLT, Nat.reduceEqDiff, Nat.reduceAdd, Nat.reduceMul, Nat.reduceLeDiff, Nat.le_refl, reduceIte, reduceCtorEq, h10, hbb, hhh, hw, hget]; (repeat refine ⟨by omega, ?_⟩); refine η _ ?_; clear η κ) | (refine r_nil (hK _ ?_); clear hE hK E K) | refine q_seq ?_
      refine c_loop (fun m s' => ∃ F oc, m = 0 ∧ s' = nf 41 F oc [(15, .t (.i .i64 0)), (16, .t (.i .i64 0))] [] ∧ oc = o1) 0 ?_ ?_
      · exact ⟨_, _, rfl, nf_of rfl ⟨rfl, rfl, trivial⟩ trivial, rfl⟩
      rintro m s' ⟨F, oc, rfl, rfl, rfl⟩
      repeat' first | refine c_seq ?_ | refine c_reg' rfl fun K E hK hE => ?_ | (refine r_opN fun κ η => ?_; simp only [go_sem, Nat.reduceLT, Nat.reduceEqDiff, Nat.reduceAdd, Nat.reduceMul, Nat.reduceLeDiff, Nat.le_refl, reduceIte, reduceCtorEq]; refine η _ ?_; clear η κ) | (refine r_nil (hK _ ?_); clear hE hK E K) | refine q_seq ?_
      refine c_cond _ rfl (fun hq => (by cases hq)) (fun hq => ?_)
      obtain ⟨e1, e2⟩ := mid_end hgood hx (k := 0) (by rw [← hhv]; exact Nat.le_refl _) hz
      repeat' first | refine q_blk ?_ | refine c_exit ?_ | refine q_seqE ?_ | refine q_blkHit ?_ | refine q_lpE ?_
      exact q_by (hRb _ _ _ hP e1 e2 hF h11 h10)
  · obtain ⟨rfl, p', g, k1, k2, k3, k4, k5⟩ := hr
    repeat' first | refine q_blk ?_ | (refine q_end ?_; refine q_r0 ?_; simp only [go_sem, Nat.reduceLT, Nat.reduceEqDiff, Nat.reduceAdd, Nat.reduceMul, Nat.reduceLeDiff, Nat.le_refl, reduceIte, reduceCtorEq])
    exact ⟨p', g, k1, k2, k3, k4⟩
end Go.Proofs.Ytfflfmpkjcomgaa
namespace Go.Proofs.Ytfflfmpkjcomgaa
open Go.RowKit
set_option maxRecDepth 100000
set_option linter.unusedSimpArgs false
variable (Hy : World → Prop)
attribute [local irreducible] runM runD cwp seqQ blkQ lpQ retQ asQ bdQ bdY retP
theorem good_ext {V : Int} {G : Int → Prop} {p0 p q : Pv} (h : Good V G p0 p) (he : Ext p q) (hw : Wt V q) (hs : Snd q G) : Good V G p0 q := by
  obtain ⟨t, ht⟩ := he.tr
  obtain ⟨t0, ht0⟩ := h.tr
  have w0 := h.w.w0
  have w1 := h.w.w1
  have htk : q.tr.take q.wn.toNat = p.tr.take p.wn.toNat := by
    rw [ht, he.wn, List.take_append_of_le_length (by omega)]
  refine ⟨⟨?_, ?_, ?_, hw.tb, hw.tn, hw.tc, ?_, ?_, ?_⟩, ?_, hs, he.cs.trans h.cs, he.hk.trans h.hk, he.hv.trans h.hv, ⟨t0 ++ t, by rw [ht, ht0, List.append_assoc]⟩, ?_, fun hc => he.cf (h.cf hc)⟩
  · rw [he.cs]; exact h.w.cl
  · rw [he.hk]; exact h.w.hk
  · intro y
    have := h.w.hv y
    unfold hasOf at this ⊢
    rw [he.hk, he.hv, he.cs]
    exact this
  · rw [he.wn]; exact w0
  · rw [he.wn, ht, List.length_append]; omega
  · rw [he.lf, he.cs, htk]; exact h.w.lf
  · rcases h.s with hs2 | hs2
    · exact .inl (he.cf hs2)
    · right
      rw [he.cs, htk]
      intro c hc h1
      obtain ⟨y, y1, y2⟩ := hs2 c hc h1
      exact ⟨y, y1, by rw [ht]; exact List.mem_append_left _ y2⟩
  · rw [he.wn]; exact h.wn
theorem hold_done (p : Pv) (x : Int) : (holdP p x).cf = true ∨ x ∈ (holdP p x).tr := by
  unfold holdP
  split
  · exact .inl rfl
  · split
    · rename_i h; exact .inr h
    · exact .inr (List.mem_append_right _ List.mem_cons_self)
def GL (l : List Int) : Int → Prop := fun x => x ∈ l
set_option maxHeartbeats 1000000 in
theorem assume_cm {V : Int} {o : Nat → O} {p0 : Pv} {g1 g2 g5 : Nat} {hg : Int → Nat} (l : List Int) (hV : 0 ≤ V ∧ V ≤ 20000) (hP : Prv o p0 g1 g2 g5 hg) (hw : Wf V p0) (hs : Sat p0) (hsn : Snd p0 (GL l)) (hfit : Fit p0) (hl : ∀ x ∈ l, LitV V x) (hll : l.length ≤ 1000000) :
    Cm Try.prog Hy 25 [.ptr 900 1 0, .t (iL l)] o fun rs o' => rs = [] ∧ ∃ p' g, Prv o' p' g1 g2 g hg ∧ Good V (GL l) p0 p' ∧ (p'.cf = true ∨ (p'.wn = p'.tr.length ∧ ∀ x ∈ l, x ∈ p'.tr)) ∧ Fr idsP o o' := by
  have hgood : Good V (GL l) p0 p0 := ⟨hw, hs, hsn, rfl, rfl, rfl, ⟨[], (List.append_nil _).symm⟩, Int.le_refl _, id⟩
  refine cm_of (cls := fun _ => 910) tt_ok follows_ Try.func25 rfl (by decide) (Nat.le_of_ble_eq_true rfl) ?_
  rw [show Try.f25.ntmps = 18 from rfl, s0_nf]
  simp only [List.zipIdx_cons, List.zipIdx_nil, List.map_cons, List.map_nil, Nat.reduceAdd, iL]
  repeat' first | refine c_seq ?_ | refine c_block ?_ | refine c_reg' rfl fun K E hK hE => ?_ | (refine r_opN fun κ η => ?_; simp only [go_sem, Nat.reduceLT, Nat.reduceEqDiff, Nat.reduceAdd, Nat.reduceMul, Nat.reduceLeDiff, Nat.le_refl, reduceIte, reduceCtorEq]; refine η _ ?_; clear η κ) | (refine r_nil (hK _ ?_); clear hE hK E K) | refine q_seq ?_
  refine c_loop (fun m s' => ∃ k q F oc g, m = l.length - k ∧ k ≤ l.length ∧ s' = nf 18 F oc [(0, .ptr 900 1 0), (6, .t (iL l)), (7, .t (.i .i64 l.length)), (8, .t (.i .i64 (k : Nat)))] [] ∧ Prv oc q g1 g2 g hg ∧ Good V (GL l) p0 q ∧ (q.cf = true ∨ ∀ x ∈ l.take k, x ∈ q.tr) ∧ Fr idsP o oc) l.length ?_ ?_
  · exact ⟨0, p0, _, _, g5, by omega, by omega, nf_of rfl ⟨rfl, rfl, rfl, rfl, trivial⟩ trivial, hP, hgood, .inr (fun x hx => by simp at hx), Fr.refl _ _⟩
  clear hP hgood
  rintro m s' ⟨k, q, F, oc, g, rfl, hk, rfl, hP, hgood, hdn, hF⟩
  have htl := lits_len hgood.w.tn hgood.w.tb hV.1
  simp only [iL]
  repeat' first | refine c_seq ?_ | refine c_reg' rfl fun K E hK hE => ?_ | (refine r_opN fun κ η => ?_; simp only [go_sem, Nat.reduceLT, Nat.reduceEqDiff, Nat.reduceAdd, Nat.reduceMul, Nat.reduceLeDiff, Nat.le_refl, reduceIte, reduceCtorEq]; refine η _ ?_; clear η κ) | (refine r_nil (hK _ ?_); clear hE hK E K) | refine q_seq ?_
  refine c_cond _ rfl (fun hq => ?_) (fun hq => ?_)
  · simp only [decide_eq_true_eq] at hq
    obtain ⟨x, hx⟩ : ∃ x, l[k]? = some x := ⟨_, List.getElem?_eq_getElem (by omega)⟩
    have hlx := hl x (List.mem_of_getElem? hx)
    repeat' first | refine c_seq ?_ | refine c_block ?_ | refine c_reg' rfl fun K E hK hE => ?_ | (refine r_opN fun κ η => ?_; simp only [go_sem, Nat.reduceLT, Nat.reduceEqDiff, Nat.reduceAdd, Nat.reduceMul, Nat.reduceLeDiff, Nat.le_refl, reduceIte, reduceCtorEq, hx]; (repeat refine ⟨by omega, ?_⟩); refine η _ ?_; clear η κ) | (refine r_nil (hK _ ?_); clear hE hK E K) | refine q_seq ?_ | refine c_skip ?_
    refine r_call fun κ η => ?_; simp only [go_sem, Nat.reduceLT, Nat.reduceEqDiff, Nat.reduceAdd, Nat.reduceMul, Nat.reduceLeDiff, Nat.le_refl, reduceIte, reduceCtorEq]; refine ⟨_, hold_cm Hy hP x (by unfold LitV at hlx; unfold Lit64; omega) (by omega), ?_⟩; rintro _ o2 ⟨rfl, ⟨g', hP2⟩, hF2⟩; simp only [go_sem, Nat.reduceLT, Nat.reduceEqDiff, Nat.reduceAdd, Nat.reduceMul, Nat.reduceLeDiff, Nat.le_refl, reduceIte, reduceCtorEq]; refine η _ ?_; clear η κ
    repeat' first | refine c_reg' rfl fun K E hK hE => ?_ | (refine r_opN fun κ η => ?_; simp only [go_sem, Nat.reduceLT, Nat.reduceEqDiff, Nat.reduceAdd, Nat.reduceMul, Nat.reduceLeDiff, Nat.le_refl, reduceIte, reduceCtorEq]; (repeat refine ⟨by omega, ?_⟩); refine η _ ?_; clear η κ) | (refine r_nil (hK _ ?_); clear hE hK E K) | refine q_seq ?_ | refine q_blk ?_ | refine q_lpN ?_
    have he := hold_ext q x
    refine ⟨l.length - (k + 1), by omega, k + 1, _, _, _, g', rfl, by omega, nf_of rfl ⟨rfl, rfl, rfl, rfl, trivial⟩ trivial, hP2, good_ext hgood he (hold_wt hgood.w.wt hlx) (hold_snd hgood.n (.given (List.mem_of_getElem? hx))), ?_, hF.trans (hF2.mono (by simp [idsP]))⟩
    rcases hdn with hd | hd
    · exact .inl (he.cf hd)
    · rcases hold_done q x with h2 | h2
      · exact .inl h2
      · right
        intro y hy
        rw [List.take_add_one, hx] at hy
        rcases List.mem_append.1 hy with hy | hy
        · obtain ⟨t, ht⟩ := he.tr
          rw [ht]
          exact List.mem_append_left _ (hd y hy)
        · obtain rfl := List.mem_singleton.1 hy
          exact h2
  · simp only [decide_eq_false_iff_not] at hq
    rw [List.take_of_length_le (by omega)] at hdn
    have hfit2 : Fit q := by unfold Fit; rw [hgood.cs]; exact hfit
    repeat' first | refine c_reg' rfl fun K E hK hE => ?_ | (refine r_opN fun κ η => ?_; simp only [go_sem, Nat.reduceLT, Nat.reduceEqDiff, Nat.reduceAdd, Nat.reduceMul, Nat.reduceLeDiff, Nat.le_refl, reduceIte, reduceCtorEq]; refine η _ ?_; clear η κ) | refine q_seq ?_ | refine c_exit ?_ | refine q_seqE ?_ | refine q_blkHit ?_ | refine q_lpE ?_
    refine r_call fun κ η => ?_; simp only [go_sem, Nat.reduceLT, Nat.reduceEqDiff, Nat.reduceAdd, Nat.reduceMul, Nat.reduceLeDiff, Nat.le_refl, reduceIte, reduceCtorEq]; refine ⟨_, propagate_cm Hy hV hP hgood.w hgood.s hgood.n hfit2, ?_⟩; rintro _ o2 ⟨rfl, p', g', hP2, hgood2, hend, hF2⟩; simp only [go_sem, Nat.reduceLT, Nat.reduceEqDiff, Nat.reduceAdd, Nat.reduceMul, Nat.reduceLeDiff, Nat.le_refl, reduceIte, reduceCtorEq]; refine η _ ?_; clear η κ
    repeat' first | (refine r_nil (hK _ ?_); clear hE hK E K) | (refine q_end ?_; refine q_r0 ?_; simp only [go_sem, Nat.reduceLT, Nat.reduceEqDiff, Nat.reduceAdd, Nat.reduceMul, Nat.reduceLeDiff, Nat.le_refl, reduceIte, reduceCtorEq])
    obtain ⟨t0, ht0⟩ := hgood.tr
    obtain ⟨t1, ht1⟩ := hgood2.tr
    refine ⟨p', g', hP2, ⟨hgood2.w, hgood2.s, hgood2.n, hgood2.cs.trans hgood.cs, hgood2.hk.trans hgood.hk, hgood2.hv.trans hgood.hv, ⟨t0 ++ t1, by rw [ht1, ht0, List.append_assoc]⟩, Int.le_trans hgood.wn hgood2.wn, fun hc => hgood2.cf (hgood.cf hc)⟩, ?_, hF.trans hF2⟩
    rcases hdn with hd | hd
    · exact .inl (hgood2.cf hd)
    · rcases hend with he | he
      · exact .inl he
      · exact .inr ⟨he, fun x hx => by rw [ht1]; exact List.mem_append_left _ (hd x hx)⟩
end Go.Proofs.Ytfflfmpkjcomgaa
namespace Go.Proofs.Ytfflfmpkjcomgaa
open Go.RowKit
set_option maxRecDepth 100000
set_option linter.unusedSimpArgs false
variable (Hy : World → Prop)
attribute [local irreducible] runM runD cwp seqQ blkQ lpQ retQ asQ bdQ bdY retP
/-- a prover in memory, of which these hold -/
structure PrF (o : Nat → O) (p : Pv) (sm : List Int) (g1 g2 g5 : Nat) (hg : Int → Nat) : Prop where
  b : o 900 = ⟨1, .cells 53 [.row 901 g1, .row 902 g2, .row 903 1, .row 904 1, .row 905 g5, .t (.i .i64 p.wn), .t (.b p.cf)]⟩
  c : o 901 = ⟨g1, .row 31 1 (p.cs.map fun c => [iL c])⟩
  l : o 902 = ⟨g2, .row 3 1 (p.lf.map fun x => [.i .i64 x])⟩
  h : o 903 = ⟨1, .map (.int .i64) (hasM p.hk hg)⟩
  r : ∀ x ∈ p.hk, o (hid x) = ⟨hg x, .row 3 1 ((p.hv x).map fun n => [.i .i64 n])⟩
  s : o 904 = ⟨1, .map (.int .i64) (setM sm)⟩
  t : o 905 = ⟨g5, .row 3 1 (p.tr.map fun x => [.i .i64 x])⟩
/-- how many are left, while a literal is forgotten -/
structure Lfm (cs : List (List Int)) (t0 : List Int) (x : Int) (k : Nat) (lf : List Int) : Prop where
  ll : lf.length = cs.length
  lf : ∀ (n : Nat) c, cs[n]? = some c → lf[n]? = some (if (n : Int) ∈ (whereIs cs (0 - x)).take k then (cnt t0 c : Int) else cnt (t0 ++ [x]) c)
theorem lfm_step {cs : List (List Int)} {t0 : List Int} {x : Int} {k j : Nat} {lf : List Int} (hcs : ∀ c ∈ cs, c.Nodup) (hx : x ∉ t0) (h : Lfm cs t0 x k lf) (hn : (whereIs cs (0 - x))[k]? = some (j : Int)) :
    ∃ c, cs[j]? = some c ∧ lf[j]? = some (cnt (t0 ++ [x]) c : Int) ∧ (cnt (t0 ++ [x]) c : Int) + 1 = cnt t0 c ∧ Lfm cs t0 x (k + 1) (lf.set j (cnt t0 c : Int)) := by
  obtain ⟨j', e, c, hc, hxc⟩ := where_mem.1 (List.mem_of_getElem? hn)
  have : j = j' := by omega
  subst this
  have hnt := nodup_take (where_nodup cs (0 - x)) hn
  have hl := h.lf j c hc
  rw [if_neg hnt] at hl
  have hs := cnt_snoc (hcs c (List.mem_of_getElem? hc)) hx
  rw [if_pos hxc] at hs
  have htk : (whereIs cs (0 - x)).take (k + 1) = (whereIs cs (0 - x)).take k ++ [(j : Int)] := by rw [List.take_add_one, hn]; rfl
  have hjl := (List.getElem?_eq_some_iff.1 hl).1
  refine ⟨c, hc, hl, by omega, by rw [List.length_set]; exact h.ll, fun m c' hc' => ?_⟩
  rw [List.getElem?_set, htk]
  by_cases hjm : j = m
  · subst hjm
    rw [hc] at hc'
    cases hc'
    rw [if_pos rfl, if_pos hjl, if_pos (List.mem_append_right _ List.mem_cons_self)]
  · rw [if_neg hjm, h.lf m c' hc']
    have : ((m : Int) ∈ (whereIs cs (0 - x)).take k ++ [(j : Int)]) ↔ (m : Int) ∈ (whereIs cs (0 - x)).take k := by
      rw [List.mem_append, List.mem_singleton]
      exact ⟨fun h => h.resolve_right (by omega), .inl⟩
    simp only [this]
theorem lfm_zero {cs : List (List Int)} {t0 : List Int} {x : Int} : Lfm cs t0 x 0 (cs.map fun c => (cnt (t0 ++ [x]) c : Int)) :=
  ⟨List.length_map _, fun n c hc => by rw [List.getElem?_map, hc, if_neg (by simp)]; rfl⟩
theorem lfm_end {cs : List (List Int)} {t0 : List Int} {x : Int} {k : Nat} {lf : List Int} (hcs : ∀ c ∈ cs, c.Nodup) (hx : x ∉ t0) (h : Lfm cs t0 x k lf) (hk : (whereIs cs (0 - x)).length ≤ k) : lf = cs.map fun c => (cnt t0 c : Int) := by
  refine List.ext_getElem? fun n => ?_
  rw [List.getElem?_map]
  cases hc : cs[n]? with
  | none =>
    have := List.getElem?_eq_none_iff.1 hc
    rw [List.getElem?_eq_none (by rw [h.ll]; exact this)]
    rfl
  | some c =>
    rw [h.lf n c hc, List.take_of_length_le hk]
    have hs := cnt_snoc (hcs c (List.mem_of_getElem? hc)) hx
    by_cases hxc : 0 - x ∈ c
    · rw [if_pos (where_mem.2 ⟨n, rfl, c, hc, hxc⟩)]
      rfl
    · rw [if_neg (fun hmem => by
        obtain ⟨k', e, c', hc', hx'⟩ := where_mem.1 hmem
        have : n = k' := by omega
        subst this
        rw [hc] at hc'
        cases hc'
        exact hxc hx')]
      rw [if_neg hxc] at hs
      rw [Option.map_some, hs]
theorem where_len (cs : List (List Int)) (x : Int) : (whereIs cs x).length ≤ cs.length := by
  unfold whereIs
  rw [List.length_map]
  have h1 := List.length_filter_le (fun n => decide (x ∈ cs.getD n [])) (List.range cs.length)
  rw [List.length_range] at h1
  exact h1
def forgP (p : Pv) (mk : Nat) : Pv := { p with tr := p.tr.take mk, wn := mk, cf := false, lf := p.cs.map fun c => (cnt (p.tr.take mk) c : Int) }
theorem PrF.turn {o o' : Nat → O} {p : Pv} {sm sm' : List Int} {g1 g2 g5 : Nat} {hg : Int → Nat} (hP : PrF o p sm g1 g2 g5 hg) (lf : List Int) (h2 : o' 902 = ⟨g2, .row 3 1 (lf.map fun x => [.i .i64 x])⟩) (h4 : o' 904 = ⟨1, .map (.int .i64) (setM sm')⟩) (h : ∀ i, i ≠ 902 → i ≠ 904 → o' i = o i) : PrF o' { p with lf := lf } sm' g1 g2 g5 hg := by
  obtain ⟨k1, k2, k3, k4, k5, k6, k7⟩ := hP
  exact ⟨by rw [h _ (by decide) (by decide)]; exact k1, by rw [h _ (by decide) (by decide)]; exact k2, h2, by rw [h _ (by decide) (by decide)]; exact k4, fun x hx => by rw [h _ (by have := hid_ge x; omega) (by have := hid_ge x; omega)]; exact k5 x hx, h4, by rw [h _ (by decide) (by decide)]; exact k7⟩
set_option maxHeartbeats 4000000 in
theorem forget_cm {V : Int} {o : Nat → O} {p : Pv} {g1 g2 g5 : Nat} {hg : Int → Nat} (hV : 0 ≤ V ∧ V ≤ 20000) (hP : Prv o p g1 g2 g5 hg) (hw : Wf V p) (hfit : Fit p) (mk : Nat) (hmk : (mk : Int) ≤ p.wn) :
    Cm Try.prog Hy 56 [.ptr 900 1 0, .t (.i .i64 mk)] o fun rs o' => rs = [] ∧ (∃ g, Prv o' (forgP p mk) g1 g2 g hg) ∧ Fr idsP o o' := by
  have hmR := mlawR
  have hmS := mlawS
  have w0 := hw.w0
  have w1 := hw.w1
  have htl := lits_len hw.tn hw.tb hV.1
  have hbb := hP.b
  have htt := hP.t
  refine cm_of (cls := fun _ => 910) tt_ok follows_ Try.func56 rfl (by decide) (Nat.le_of_ble_eq_true rfl) ?_
  rw [show Try.f56.ntmps = 75 from rfl, s0_nf]
  simp only [List.zipIdx_cons, List.zipIdx_nil, List.map_cons, List.map_nil, Nat.reduceAdd]
  repeat' first | refine c_seq ?_ | refine c_block ?_ | refine c_reg' rfl fun K E hK hE => ?_ | (refine r_opN fun κ η => ?_; simp only [go_sem, Nat.reduceLT, Nat.reduceEqDiff, Nat.reduceAdd, Nat.reduceMul, Nat.reduceLeDiff, Nat.le_refl, reduceIte, reduceCtorEq, hbb, htt]; (repeat refine ⟨by omega, ?_⟩); refine η _ ?_; clear η κ) | (refine r_nil (hK _ ?_); clear hE hK E K) | refine q_seq ?_
  refine c_loop (fun m s' => ∃ j F oc, m = j - mk ∧ mk ≤ j ∧ j ≤ p.tr.length ∧ s' = nf 75 F oc [(0, .ptr 900 1 0), (1, .t (.i .i64 mk)), (4, .t (.i .i64 ((j : Nat) - 1)))] [] ∧ PrF oc { p with lf := p.cs.map fun c => (cnt (p.tr.take (min j p.wn.toNat)) c : Int) } (p.tr.take j) g1 g2 g5 hg ∧ Fr idsP o oc) (p.tr.length - mk) ?_ ?_
  · refine ⟨p.tr.length, _, _, by omega, by omega, by omega, nf_of rfl ⟨rfl, rfl, rfl, trivial⟩ trivial, ?_, Fr.refl _ _⟩
    obtain ⟨k1, k2, k3, k4, k5, k6, k7⟩ := hP
    rw [show min p.tr.length p.wn.toNat = p.wn.toNat by omega, List.take_length]
    exact ⟨k1, k2, by rw [← hw.lf]; exact k3, k4, k5, k6, k7⟩
  clear hbb htt hP
  rintro m s' ⟨j, F, oc, rfl, hj1, hj2, rfl, hP, hF⟩
  have hbb := hP.b
  have htt := hP.t
  have hss := hP.s
  have hhh := hP.h
  dsimp only at hbb htt hss hhh
  repeat' first | refine c_seq ?_ | refine c_reg' rfl fun K E hK hE => ?_ | (refine r_opN fun κ η => ?_; simp only [go_sem, Nat.reduceLT, Nat.reduceEqDiff, Nat.reduceAdd, Nat.reduceMul, Nat.reduceLeDiff, Nat.le_refl, reduceIte, reduceCtorEq]; refine η _ ?_; clear η κ) | (refine r_nil (hK _ ?_); clear hE hK E K) | refine q_seq ?_
  refine c_cond _ rfl (fun hq => ?_) (fun hq => ?_)
  · simp only [decide_eq_true_eq] at hq
    obtain ⟨i, rfl⟩ : ∃ i, j = i + 1 := ⟨j - 1, by omega⟩
    have hii : ((i + 1 : Nat) : Int) - 1 = (i : Int) := by omega
    obtain ⟨x, hx⟩ : ∃ x, p.tr[i]? = some x := ⟨_, List.getElem?_eq_getElem (by omega)⟩
    have hlx := hw.tb x (List.mem_of_getElem? hx)
    have hk := kyok (x := x) (by unfold LitV at hlx; unfold Lit64; omega)
    have htk : p.tr.take (i + 1) = p.tr.take i ++ [x] := by rw [List.take_add_one, hx]; rfl
    have hxn : x ∉ p.tr.take i := nodup_take hw.tn hx
    have hdel := setM_del hxn
    rw [← htk] at hdel
    simp only [ky] at hk hdel
    rw [hii]
    repeat' first | refine c_seq ?_ | refine c_block ?_ | refine c_reg' rfl fun K E hK hE => ?_ | (refine r_opN fun κ η => ?_; simp only [go_sem, Nat.reduceLT, Nat.reduceEqDiff, Nat.reduceAdd, Nat.reduceMul, Nat.reduceLeDiff, Nat.le_refl, reduceIte, reduceCtorEq, hbb, htt, hss, hx, hdel]; (repeat refine ⟨by omega, ?_⟩); refine η _ ?_; clear η κ) | (refine r_nil (hK _ ?_); clear hE hK E K) | refine q_seq ?_ | refine c_skip ?_
    refine c_cond _ rfl (fun hq2 => ?_) (fun hq2 => ?_)
    · simp only [decide_eq_true_eq] at hq2
      repeat' first | refine c_reg' rfl fun K E hK hE => ?_ | (refine r_opN fun κ η => ?_; simp only [go_sem, Nat.reduceLT, Nat.reduceEqDiff, Nat.reduceAdd, Nat.reduceMul, Nat.reduceLeDiff, Nat.le_refl, reduceIte, reduceCtorEq]; (repeat refine ⟨by omega, ?_⟩); refine η _ ?_; clear η κ) | (refine r_nil (hK _ ?_); clear hE hK E K) | refine q_seq ?_ | refine c_exit ?_ | refine q_seqE ?_ | refine q_blkHit ?_ | refine q_lpN ?_
      refine ⟨i - mk, by omega, i, _, _, rfl, by omega, by omega, nf_of rfl ⟨rfl, rfl, rfl, trivial⟩ trivial, ?_, hF.trans (fr_nf (by simp [idsP]))⟩
      have e : min i p.wn.toNat = min (i + 1) p.wn.toNat := by omega
      rw [e]
      exact hP.turn _ hP.l rfl fun a h1 h2 => lookO_other (by simp; omega)
    · simp only [decide_eq_false_iff_not] at hq2
      have e1 : min (i + 1) p.wn.toNat = i + 1 := by omega
      have e0 : min i p.wn.toNat = i := by omega
      rw [e1] at hP
      have hw2 : IntKind.wrap .i64 (0 - x) = 0 - x := inR_wrap (by simp only [inR]; unfold LitV at hlx; omega)
      have hk2 := kyok (x := 0 - x) (by unfold LitV at hlx; unfold Lit64; omega)
      have hget := hasM_get p.hk hg (0 - x)
      have hhv := hw.hv (0 - x)
      simp only [ky] at hk2 hget
      have hP1 : PrF (nf 75 F oc [] [(904, ⟨1, .map (.int .i64) (setM (p.tr.take i))⟩)]).o { p with lf := p.cs.map fun c => (cnt (p.tr.take (i + 1)) c : Int) } (p.tr.take i) g1 g2 g5 hg := hP.turn _ hP.l rfl fun a h1 h2 => lookO_other (by simp; omega)
      have hF1 : Fr idsP o (nf 75 F oc [] [(904, ⟨1, .map (.int .i64) (setM (p.tr.take i))⟩)]).o := hF.trans (fr_nf (by simp [idsP]))
      have hcsn : ∀ c ∈ p.cs, c.Nodup := fun c hc => (hw.cl c hc).1
      have hm0 : Lfm p.cs (p.tr.take i) x 0 (p.cs.map fun c => (cnt (p.tr.take (i + 1)) c : Int)) := by rw [htk]; exact lfm_zero
      by_cases hin : 0 - x ∈ p.hk
      · rw [if_pos hin] at hget
        unfold hasOf at hhv
        rw [if_pos hin] at hhv
        have hrr := hP.r _ hin
        dsimp only at hrr
        have hvl := where_len p.cs (0 - x)
        rw [← hhv] at hvl
        have hf1 := hfit.1
        have hidn := hid_ne (0 - x) (k := 904) (by decide)
        repeat' first | refine c_seq ?_ | refine c_block ?_ | refine c_reg' rfl fun K E hK hE => ?_ | (refine r_opN fun κ η => ?_; simp only [go_sem, Nat.reduceLT, Nat.reduceEqDiff, Nat.reduceAdd, Nat.reduceMul, Nat.reduceLeDiff, Nat.le_refl, reduceIte, reduceCtorEq, hbb, hhh, hw2, hget, hrr, hidn]; (repeat refine ⟨by omega, ?_⟩); refine η _ ?_; clear η κ) | (refine r_nil (hK _ ?_); clear hE hK E K) | refine q_seq ?_ | refine c_skip ?_
        refine c_loop (fun m s' => ∃ k lf F oc, m = (p.hv (0 - x)).length - k ∧ k ≤ (p.hv (0 - x)).length ∧ s' = nf 75 F oc [(0, .ptr 900 1 0), (1, .t (.i .i64 mk)), (4, .t (.i .i64 i)), (43, .row (hid (0 - x)) (hg (0 - x))), (44, .t (.i .i64 (p.hv (0 - x)).length)), (45, .t (.i .i64 (k : Nat)))] [] ∧ Lfm p.cs (p.tr.take i) x k lf ∧ PrF oc { p with lf := lf } (p.tr.take i) g1 g2 g5 hg ∧ Fr idsP o oc) (p.hv (0 - x)).length ?_ ?_
        · exact ⟨0, _, _, _, by omega, by omega, nf_of rfl ⟨rfl, rfl, rfl, rfl, rfl, rfl, trivial⟩ trivial, hm0, hP1, hF1⟩
        clear hbb htt hss hhh hrr hP hF hP1 hF1 hm0
        rintro m s' ⟨k, lf, F, oc, rfl, hkk, rfl, hm, hP, hF⟩
        have hbb := hP.b
        have hll := hP.l
        have hrr := hP.r _ hin
        dsimp only at hbb hll hrr
        repeat' first | refine c_seq ?_ | refine c_reg' rfl fun K E hK hE => ?_ | (refine r_opN fun κ η => ?_; simp only [go_sem, Nat.reduceLT, Nat.reduceEqDiff, Nat.reduceAdd, Nat.reduceMul, Nat.reduceLeDiff, Nat.le_refl, reduceIte, reduceCtorEq]; refine η _ ?_; clear η κ) | (refine r_nil (hK _ ?_); clear hE hK E K) | refine q_seq ?_
        refine c_cond _ rfl (fun hq3 => ?_) (fun hq3 => ?_)
        · simp only [decide_eq_true_eq] at hq3
          obtain ⟨n, hn⟩ : ∃ n, (p.hv (0 - x))[k]? = some n := ⟨_, List.getElem?_eq_getElem (by omega)⟩
          obtain ⟨j, rfl, _⟩ := where_mem.1 (hhv ▸ List.mem_of_getElem? hn)
          obtain ⟨c, hc, hlf, hcn, hstep⟩ := lfm_step hcsn hxn hm (hhv ▸ hn)
          have hjl := (List.getElem?_eq_some_iff.1 hlf).1
          have hcl := hfit.2 c (List.mem_of_getElem? hc)
          have hct : cnt (p.tr.take i ++ [x]) c ≤ c.length := cnt_le
          generalize hvv : (cnt (p.tr.take i ++ [x]) c : Int) = v1 at *
          generalize hvw : cnt (p.tr.take i) c = v0 at *
          have hset : (lf.map fun x => [T.i .i64 x]).set j [.i .i64 (v0 : Int)] = (lf.set j (v0 : Int)).map fun x => [T.i .i64 x] := by rw [List.map_set]
          repeat' first | refine c_seq ?_ | refine c_block ?_ | refine c_reg' rfl fun K E hK hE => ?_ | (refine r_opN fun κ η => ?_; simp only [go_sem, Nat.reduceLT, Nat.reduceEqDiff, Nat.reduceAdd, Nat.reduceMul, Nat.reduceLeDiff, Nat.le_refl, reduceIte, reduceCtorEq, hrr, hn, hbb, hll, hlf, hcn, hset]; (repeat refine ⟨by omega, ?_⟩); refine η _ ?_; clear η κ) | (refine r_nil (hK _ ?_); clear hE hK E K) | refine q_seq ?_ | refine q_blk ?_ | refine c_skip ?_ | refine q_lpN ?_
          refine ⟨(p.hv (0 - x)).length - (k + 1), by omega, k + 1, _, _, _, rfl, by omega, nf_of rfl ⟨rfl, rfl, rfl, rfl, rfl, rfl, trivial⟩ trivial, hstep, hP.turn _ rfl hP.s fun a h1 h2 => lookO_other (by simp; omega), hF.trans (fr_nf (by simp [idsP]))⟩
        · simp only [decide_eq_false_iff_not] at hq3
          have hlf := lfm_end hcsn hxn hm (by rw [← hhv]; omega)
          subst hlf
          repeat' first | refine c_reg' rfl fun K E hK hE => ?_ | (refine r_opN fun κ η => ?_; simp only [go_sem, Nat.reduceLT, Nat.reduceEqDiff, Nat.reduceAdd, Nat.reduceMul, Nat.reduceLeDiff, Nat.le_refl, reduceIte, reduceCtorEq]; (repeat refine ⟨by omega, ?_⟩); refine η _ ?_; clear η κ) | (refine r_nil (hK _ ?_); clear hE hK E K) | refine q_seq ?_ | refine q_blk ?_ | refine c_exit ?_ | refine q_seqE ?_ | refine q_blkHit ?_ | refine q_lpE ?_ | refine q_lpN ?_
          refine ⟨i - mk, by omega, i, _, _, rfl, by omega, by omega, nf_of rfl ⟨rfl, rfl, rfl, trivial⟩ trivial, ?_, hF⟩
          rw [e0]
          exact hP
      · rw [if_neg hin] at hget
        unfold hasOf at hhv
        rw [if_neg hin] at hhv
        have hlf := lfm_end hcsn hxn hm0 (by rw [← hhv]; exact Nat.le_refl _)
        rw [hlf] at hP1
        repeat' first | refine c_seq ?_ | refine c_block ?_ | refine c_reg' rfl fun K E hK hE => ?_ | (refine r_opN fun κ η => ?_; simp only [go_sem, Nat.reduceLT, Nat.reduceEqDiff, Nat.reduceAdd, Nat.reduceMul, Nat.reduceLeDiff, Nat.le_refl, reduceIte, reduceCtorEq, hbb, hhh, hw2, hget]; (repeat refine ⟨by omega, ?_⟩); refine η _ ?_; clear η κ) | (refine r_nil (hK _ ?_); clear hE hK E K) | refine q_seq ?_ | refine c_skip ?_
        refine c_loop (fun m s' => ∃ F oc, m = 0 ∧ s' = nf 75 F oc [(0, .ptr 900 1 0), (1, .t (.i .i64 mk)), (4, .t (.i .i64 i)), (44, .t (.i .i64 0)), (45, .t (.i .i64 0))] [] ∧ PrF oc { p with lf := p.cs.map fun c => (cnt (p.tr.take i) c : Int) } (p.tr.take i) g1 g2 g5 hg ∧ Fr idsP o oc) 0 ?_ ?_
        · exact ⟨_, _, rfl, nf_of rfl ⟨rfl, rfl, rfl, rfl, rfl, trivial⟩ trivial, hP1, hF1⟩
        clear hP1 hF1 hP hF
        rintro m s' ⟨F, oc, rfl, rfl, hP1, hF1⟩
        repeat' first | refine c_seq ?_ | refine c_reg' rfl fun K E hK hE => ?_ | (refine r_opN fun κ η => ?_; simp only [go_sem, Nat.reduceLT, Nat.reduceEqDiff, Nat.reduceAdd, Nat.reduceMul, Nat.reduceLeDiff, Nat.le_refl, reduceIte, reduceCtorEq]; refine η _ ?_; clear η κ) | (refine r_nil (hK _ ?_); clear hE hK E K) | refine q_seq ?_
        refine c_cond _ rfl (fun hq => (by cases hq)) (fun hq => ?_)
        repeat' first | refine c_reg' rfl fun K E hK hE => ?_ | (refine r_opN fun κ η => ?_; simp only [go_sem, Nat.reduceLT, Nat.reduceEqDiff, Nat.reduceAdd, Nat.reduceMul, Nat.reduceLeDiff, Nat.le_refl, reduceIte, reduceCtorEq]; (repeat refine ⟨by omega, ?_⟩); refine η _ ?_; clear η κ) | (refine r_nil (hK _ ?_); clear hE hK E K) | refine q_seq ?_ | refine q_blk ?_ | refine c_exit ?_ | refine q_seqE ?_ | refine q_blkHit ?_ | refine q_lpE ?_ | refine q_lpN ?_
        refine ⟨i - mk, by omega, i, _, _, rfl, by omega, by omega, nf_of rfl ⟨rfl, rfl, rfl, trivial⟩ trivial, ?_, hF1⟩
        rw [e0]
        exact hP1
  · simp only [decide_eq_false_iff_not] at hq
    obtain rfl : j = mk := by omega
    have hmap : (p.tr.map fun x => [T.i .i64 x]).take j = (p.tr.take j).map fun x => [T.i .i64 x] := List.map_take.symm
    repeat' first | refine c_reg' rfl fun K E hK hE => ?_ | (refine r_opN fun κ η => ?_; simp only [go_sem, Nat.reduceLT, Nat.reduceEqDiff, Nat.reduceAdd, Nat.reduceMul, Nat.reduceLeDiff, Nat.le_refl, reduceIte, reduceCtorEq, hbb, htt, hmap]; (repeat refine ⟨by (first | omega | exact ⟨_, rfl, rfl⟩), ?_⟩); refine η _ ?_; clear η κ) | (refine r_nil (hK _ ?_); clear hE hK E K) | refine q_seq ?_ | refine c_exit ?_ | refine q_seqE ?_ | refine q_blkHit ?_ | refine q_lpE ?_ | (refine q_end ?_; refine q_r0 ?_; simp only [go_sem, Nat.reduceLT, Nat.reduceEqDiff, Nat.reduceAdd, Nat.reduceMul, Nat.reduceLeDiff, Nat.le_refl, reduceIte, reduceCtorEq, hbb, htt, hmap])
    refine ⟨⟨g5 + 1, ?_⟩, hF.trans (fr_nf (by simp [idsP]))⟩
    obtain ⟨k1, k2, k3, k4, k5, k6, k7⟩ := hP
    have e : min j p.wn.toNat = j := by omega
    rw [e] at k3
    exact ⟨rfl, k2, k3, k4, fun y hy => (lookO_other (by simp [hid_ne2])).trans (k5 y hy), k6, rfl⟩
end Go.Proofs.Ytfflfmpkjcomgaa
namespace Go.Proofs.Ytfflfmpkjcomgaa
open Go.RowKit
set_option maxRecDepth 100000
set_option linter.unusedSimpArgs false
variable (Hy : World → Prop)
attribute [local irreducible] runM runD cwp seqQ blkQ lpQ retQ asQ bdQ bdY retP
/-- all is found, without a conflict -/
structure Cmp (V : Int) (p : Pv) : Prop where
  w : Wf V p
  s : Sat p
  n : ∀ x ∈ p.tr, Un p.cs (fun _ => False) x
  d : p.wn = p.tr.length
  c : p.cf = false
def turn (c : List Int) : List Int := c.map fun x => 0 - x
theorem forg_back {V : Int} {G : Int → Prop} {p p' : Pv} (h : Cmp V p) (k : Good V G p p') : forgP p' p.tr.length = p := by
  obtain ⟨t, ht⟩ := k.tr
  have htk : p'.tr.take p.tr.length = p.tr := by rw [ht, List.take_left]
  have hlf := h.w.lf
  rw [h.d, Int.toNat_natCast, List.take_length] at hlf
  unfold forgP
  rw [htk, k.cs, ← hlf, ← h.d, k.hk, k.hv]
  have hc := h.c
  cases p
  dsimp only at hc ⊢
  rw [hc]
def idsR : List Nat := [900, 902, 904, 905, 908, 910, 911, 948, 949]
theorem idsP_R : ∀ i ∈ idsP, i ∈ idsR := by simp [idsP, idsR]
set_option maxHeartbeats 2000000 in
theorem isRup_cm {V : Int} {o : Nat → O} {p : Pv} {g1 g2 g5 : Nat} {hg : Int → Nat} (c : List Int) (hV : 0 ≤ V ∧ V ≤ 20000) (hP : Prv o p g1 g2 g5 hg) (hst : p.cf = true ∨ Cmp V p) (hfit : p.cf = true ∨ Fit p) (hl : ∀ x ∈ c, LitV V x) (hll : c.length ≤ 1000000) :
    Cm Try.prog Hy 33 [.ptr 900 1 0, .t (iL c)] o fun rs o' => ∃ q g, rs = [.t (.b q)] ∧ Prv o' p g1 g2 g hg ∧ Fr idsR o o' ∧ (p.cf = true → q = true) ∧ (p.cf = false → (q = true ↔ Confl p.cs (GL (turn c)))) := by
  have hbb := hP.b
  have htt := hP.t
  by_cases hcf : p.cf = true
  · refine cm_of (cls := fun d => 920 + d) tt_ok follows_ Try.func33 rfl (by decide) (Nat.le_of_ble_eq_true rfl) ?_
    rw [show Try.f33.ntmps = 42 from rfl, s0_nf]
    simp only [List.zipIdx_cons, List.zipIdx_nil, List.map_cons, List.map_nil, Nat.reduceAdd, iL]
    repeat' first | refine c_seq ?_ | refine c_reg' rfl fun K E hK hE => ?_ | (refine r_opN fun κ η => ?_; simp only [go_sem, Nat.reduceLT, Nat.reduceEqDiff, Nat.reduceAdd, Nat.reduceMul, Nat.reduceLeDiff, Nat.le_refl, reduceIte, reduceCtorEq, hbb, hcf]; (repeat refine ⟨by omega, ?_⟩); refine η _ ?_; clear η κ) | (refine r_nil (hK _ ?_); clear hE hK E K) | refine q_seq ?_
    refine c_cond _ rfl (fun hq => ?_) (fun hq => (by cases hq))
    repeat' first | refine c_seq ?_ | refine c_reg' rfl fun K E hK hE => ?_ | (refine r_opN fun κ η => ?_; simp only [go_sem, Nat.reduceLT, Nat.reduceEqDiff, Nat.reduceAdd, Nat.reduceMul, Nat.reduceLeDiff, Nat.le_refl, reduceIte, reduceCtorEq]; refine η _ ?_; clear η κ) | (refine r_nil (hK _ ?_); clear hE hK E K) | refine q_seq ?_ | refine c_ret ?_ | refine q_seqR ?_ | (refine q_ret ?_; refine q_r1 ?_; simp only [go_sem, Nat.reduceLT, Nat.reduceEqDiff, Nat.reduceAdd, Nat.reduceMul, Nat.reduceLeDiff, Nat.le_refl, reduceIte, reduceCtorEq])
    exact ⟨true, g5, rfl, hP, Fr.refl _ _, fun _ => rfl, fun e => by rw [hcf] at e; cases e⟩
  have hcmp := hst.resolve_left hcf
  have hfit := hfit.resolve_left hcf
  have hcff := hcmp.c
  have htl := lits_len hcmp.w.tn hcmp.w.tb hV.1
  refine cm_of (cls := fun d => 920 + d) tt_ok follows_ Try.func33 rfl (by decide) (Nat.le_of_ble_eq_true rfl) ?_
  rw [show Try.f33.ntmps = 42 from rfl, s0_nf]
  simp only [List.zipIdx_cons, List.zipIdx_nil, List.map_cons, List.map_nil, Nat.reduceAdd, iL]
  repeat' first | refine c_seq ?_ | refine c_reg' rfl fun K E hK hE => ?_ | (refine r_opN fun κ η => ?_; simp only [go_sem, Nat.reduceLT, Nat.reduceEqDiff, Nat.reduceAdd, Nat.reduceMul, Nat.reduceLeDiff, Nat.le_refl, reduceIte, reduceCtorEq, hbb, hcff]; (repeat refine ⟨by omega, ?_⟩); refine η _ ?_; clear η κ) | (refine r_nil (hK _ ?_); clear hE hK E K) | refine q_seq ?_
  refine c_cond _ rfl (fun hq => (by cases hq)) (fun hq => ?_)
  repeat' first | refine c_seq ?_ | refine c_block ?_ | refine c_reg' rfl fun K E hK hE => ?_ | (refine r_opN fun κ η => ?_; simp only [go_sem, Nat.reduceLT, Nat.reduceEqDiff, Nat.reduceAdd, Nat.reduceMul, Nat.reduceLeDiff, Nat.le_refl, reduceIte, reduceCtorEq, hbb, htt]; (repeat refine ⟨by omega, ?_⟩); refine η _ ?_; clear η κ) | (refine r_nil (hK _ ?_); clear hE hK E K) | refine q_seq ?_ | refine c_skip ?_
  refine c_loop (fun m s' => ∃ k F oc x, m = c.length - k ∧ k ≤ c.length ∧ s' = nf 42 F oc [(0, .ptr 900 1 0), (5, .t (.i .i64 p.tr.length)), (6, x), (19, .t (iL c)), (20, .t (.i .i64 c.length)), (21, .t (.i .i64 (k : Nat)))] [] ∧ ((turn (c.take k) = [] ∧ x = .nilS) ∨ ∃ n, x = .row 949 n ∧ oc 949 = ⟨n, .row 3 1 ((turn (c.take k)).map fun x => [.i .i64 x])⟩) ∧ Fr idsR o oc ∧ Prv oc p g1 g2 g5 hg) c.length ?_ ?_
  · exact ⟨0, _, _, _, by omega, by omega, nf_of rfl ⟨rfl, rfl, rfl, rfl, rfl, rfl, trivial⟩ trivial, .inl ⟨rfl, rfl⟩, Fr.refl _ _, hP⟩
  clear hP hbb htt
  rintro m s' ⟨k, F, oc, x, rfl, hk, rfl, hx, hF, hP⟩
  simp only [iL]
  repeat' first | refine c_seq ?_ | refine c_reg' rfl fun K E hK hE => ?_ | (refine r_opN fun κ η => ?_; simp only [go_sem, Nat.reduceLT, Nat.reduceEqDiff, Nat.reduceAdd, Nat.reduceMul, Nat.reduceLeDiff, Nat.le_refl, reduceIte, reduceCtorEq]; refine η _ ?_; clear η κ) | (refine r_nil (hK _ ?_); clear hE hK E K) | refine q_seq ?_
  refine c_cond _ rfl (fun hq => ?_) (fun hq => ?_)
  · simp only [decide_eq_true_eq] at hq
    obtain ⟨y, hy⟩ : ∃ y, c[k]? = some y := ⟨_, List.getElem?_eq_getElem (by omega)⟩
    have hly := hl y (List.mem_of_getElem? hy)
    have hw : IntKind.wrap .i64 (0 - y) = 0 - y := inR_wrap (by simp only [inR]; unfold LitV at hly; omega)
    have htk : turn (c.take (k + 1)) = turn (c.take k) ++ [0 - y] := by rw [List.take_add_one, hy]; simp [turn]
    have hlen : (turn (c.take k)).length = k := by simp [turn]; omega
    generalize turn (c.take k) = w at hx htk hlen
    rcases hx with ⟨rfl, rfl⟩ | ⟨n, rfl, hn⟩
    · repeat' first | refine c_seq ?_ | refine c_block ?_ | refine c_reg' rfl fun K E hK hE => ?_ | (refine r_opN fun κ η => ?_; simp only [go_sem, Nat.reduceLT, Nat.reduceEqDiff, Nat.reduceAdd, Nat.reduceMul, Nat.reduceLeDiff, Nat.le_refl, reduceIte, reduceCtorEq, hy, hw]; (repeat refine ⟨by omega, ?_⟩); refine η _ ?_; clear η κ) | (refine r_nil (hK _ ?_); clear hE hK E K) | refine q_seq ?_ | refine q_blk ?_ | refine c_skip ?_ | refine q_lpN ?_
      refine ⟨c.length - (k + 1), by omega, k + 1, _, _, _, rfl, by omega, nf_of rfl ⟨rfl, rfl, rfl, rfl, rfl, rfl, trivial⟩ trivial, .inr ⟨_, rfl, by rw [htk]; rfl⟩, hF.trans (fr_nf (by simp [idsR])), hP.fr (fr_nf (by simp) : Fr [948, 949] _ _) (by simp)⟩
    · repeat' first | refine c_seq ?_ | refine c_block ?_ | refine c_reg' rfl fun K E hK hE => ?_ | (refine r_opN fun κ η => ?_; simp only [go_sem, Nat.reduceLT, Nat.reduceEqDiff, Nat.reduceAdd, Nat.reduceMul, Nat.reduceLeDiff, Nat.le_refl, reduceIte, reduceCtorEq, hy, hn, hw]; (repeat refine ⟨by omega, ?_⟩); refine η _ ?_; clear η κ) | (refine r_nil (hK _ ?_); clear hE hK E K) | refine q_seq ?_ | refine q_blk ?_ | refine c_skip ?_ | refine q_lpN ?_
      refine ⟨c.length - (k + 1), by omega, k + 1, _, _, _, rfl, by omega, nf_of rfl ⟨rfl, rfl, rfl, rfl, rfl, rfl, trivial⟩ trivial, .inr ⟨_, rfl, by rw [htk, List.map_append]; rfl⟩, hF.trans (fr_nf (by simp [idsR])), hP.fr (fr_nf (by simp) : Fr [948, 949] _ _) (by simp)⟩
  · simp only [decide_eq_false_iff_not] at hq
    rw [List.take_of_length_le (by omega)] at hx
    have htl2 : ∀ x ∈ turn c, LitV V x := fun x hx => by
      obtain ⟨y, hy, rfl⟩ := List.mem_map.1 hx
      exact (hl y hy).neg
    have hsn : Snd p (GL (turn c)) := ⟨fun x hx => (hcmp.n x hx).mono (fun c hc => ⟨c, hc, fun _ => Iff.rfl⟩) (fun _ e => e.elim), fun e => absurd e hcf⟩
    have htlen : (turn c).length ≤ 1000000 := by simp [turn]; omega
    have key : Cm Try.prog Hy 25 [.ptr 900 1 0, x] oc fun rs o' => rs = [] ∧ ∃ p' g, Prv o' p' g1 g2 g hg ∧ Good V (GL (turn c)) p p' ∧ (p'.cf = true ∨ (p'.wn = p'.tr.length ∧ ∀ x ∈ turn c, x ∈ p'.tr)) ∧ Fr idsR oc o' := by
      rcases hx with ⟨e, rfl⟩ | ⟨n, rfl, hn⟩
      · refine Cm.nils (args' := [.ptr 900 1 0, .t (iL (turn c))]) rfl (fun j x x' h1 h2 => ?_) ((assume_cm Hy (turn c) hV hP hcmp.w hcmp.s hsn hfit htl2 htlen).mono fun rs o' ⟨h1, p', g, h2, h3, h4, h5⟩ => ⟨h1, p', g, h2, h3, h4, h5.mono idsP_R⟩)
        match j with
        | 0 => cases h1; cases h2; exact .inl rfl
        | 1 => cases h1; cases h2; exact .inr ⟨rfl, by rw [e]; rfl⟩
        | j + 2 => simp at h1
      · have hf1 : Fr [949] oc (ob1 oc 949 (.ro ((turn c).map fun x => [.i .i64 x]))) := fun i hi => ob1_other (by simpa using hi)
        refine Cm.own (args' := [.ptr 900 1 0, .t (iL (turn c))]) hn rfl (fun j x x' h1 h2 => ?_) ((assume_cm Hy (turn c) hV (hP.fr hf1 (by simp)) hcmp.w hcmp.s hsn hfit htl2 htlen).mono fun rs o' ⟨h1, p', g, h2, h3, h4, h5⟩ => ⟨h1, p', g, h2, h3, h4, (hf1.mono (by simp [idsR])).trans (h5.mono idsP_R)⟩)
        match j with
        | 0 => cases h1; cases h2; exact .inl rfl
        | 1 => cases h1; cases h2; exact .inr (.inl ⟨rfl, rfl⟩)
        | j + 2 => simp at h1
    repeat' first | refine c_seq ?_ | refine c_reg' rfl fun K E hK hE => ?_ | (refine r_opN fun κ η => ?_; simp only [go_sem, Nat.reduceLT, Nat.reduceEqDiff, Nat.reduceAdd, Nat.reduceMul, Nat.reduceLeDiff, Nat.le_refl, reduceIte, reduceCtorEq]; refine η _ ?_; clear η κ) | refine q_seq ?_ | refine c_exit ?_ | refine q_seqE ?_ | refine q_blkHit ?_ | refine q_lpE ?_
    refine r_call fun κ η => ?_; simp only [go_sem, Nat.reduceLT, Nat.reduceEqDiff, Nat.reduceAdd, Nat.reduceMul, Nat.reduceLeDiff, Nat.le_refl, reduceIte, reduceCtorEq]; refine ⟨_, key, ?_⟩; rintro _ o2 ⟨rfl, p', g, hP2, hgood, hend, hF2⟩; simp only [go_sem, Nat.reduceLT, Nat.reduceEqDiff, Nat.reduceAdd, Nat.reduceMul, Nat.reduceLeDiff, Nat.le_refl, reduceIte, reduceCtorEq]; refine η _ ?_; clear η κ
    have hbb := hP2.b
    have hfit2 : Fit p' := by unfold Fit; rw [hgood.cs]; exact hfit
    repeat' first | refine c_seq ?_ | refine c_reg' rfl fun K E hK hE => ?_ | (refine r_opN fun κ η => ?_; simp only [go_sem, Nat.reduceLT, Nat.reduceEqDiff, Nat.reduceAdd, Nat.reduceMul, Nat.reduceLeDiff, Nat.le_refl, reduceIte, reduceCtorEq, hbb]; (repeat refine ⟨by omega, ?_⟩); refine η _ ?_; clear η κ) | (refine r_nil (hK _ ?_); clear hE hK E K) | refine q_seq ?_
    refine r_call fun κ η => ?_; simp only [go_sem, Nat.reduceLT, Nat.reduceEqDiff, Nat.reduceAdd, Nat.reduceMul, Nat.reduceLeDiff, Nat.le_refl, reduceIte, reduceCtorEq]; refine ⟨_, forget_cm Hy hV hP2 hgood.w hfit2 p.tr.length (by have := hgood.wn; rw [hcmp.d] at this; exact this), ?_⟩; rintro _ o3 ⟨rfl, ⟨g', hP3⟩, hF3⟩; simp only [go_sem, Nat.reduceLT, Nat.reduceEqDiff, Nat.reduceAdd, Nat.reduceMul, Nat.reduceLeDiff, Nat.le_refl, reduceIte, reduceCtorEq]; refine η _ ?_; clear η κ
    rw [forg_back hcmp hgood] at hP3
    repeat' first | refine c_seq ?_ | refine c_reg' rfl fun K E hK hE => ?_ | (refine r_opN fun κ η => ?_; simp only [go_sem, Nat.reduceLT, Nat.reduceEqDiff, Nat.reduceAdd, Nat.reduceMul, Nat.reduceLeDiff, Nat.le_refl, reduceIte, reduceCtorEq]; refine η _ ?_; clear η κ) | (refine r_nil (hK _ ?_); clear hE hK E K) | refine q_seq ?_ | refine c_ret ?_ | (refine q_ret ?_; refine q_r1 ?_; simp only [go_sem, Nat.reduceLT, Nat.reduceEqDiff, Nat.reduceAdd, Nat.reduceMul, Nat.reduceLeDiff, Nat.le_refl, reduceIte, reduceCtorEq])
    refine ⟨p'.cf, g', rfl, hP3, hF.trans (hF2.trans (hF3.mono idsP_R)), fun e => absurd e hcf, fun _ => ?_⟩
    have hcs := hgood.cs
    constructor
    · intro e
      have := hgood.n.2 e
      rw [hcs] at this
      exact this
    · intro e
      refine Classical.byContradiction fun hn => ?_
      obtain ⟨h1, h2⟩ := hend.resolve_left hn
      have := (done_un hgood.w hgood.s hgood.n h2 h1 (by simpa using hn)).2
      rw [hcs] at this
      exact this e
end Go.Proofs.Ytfflfmpkjcomgaa
