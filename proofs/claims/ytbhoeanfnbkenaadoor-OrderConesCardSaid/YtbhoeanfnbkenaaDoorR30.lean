import Derived.Test.YtbhoeanfnbkenaaDoorR20
import Derived.Test.YtbhoeanfnbkenaaDoorR25
import Derived.Test.YtbhoeanfnbkenaaDoorR8
import Derived.Test.YtbhoeanfnbkenaaDoorR22
import Derived.Test.YtbhoeanfnbkenaaDoorR32
namespace Go.Proofs.YtbhoeanfnbkenaaDoor
open Go.RowKit Go.WideMaps
set_option maxRecDepth 100000
set_option linter.unusedSimpArgs false
variable (Hy : World → Prop)
attribute [local irreducible] runM runD cwp seqQ blkQ lpQ retQ asQ bdQ bdY retP endR preD retD
theorem stEq_no {a b : ByteArray} (h : ¬ a = b) : stEq a b = false := decide_eq_false h
set_option maxHeartbeats 4000000 in
theorem rleads_ct (c : Ci) (s : ByteArray) (hl : c.las.length ≤ 1000000) (hg : c.gts.length ≤ 1000000) : Ct Tryd.prog Hy 53 [.ag (cE c), .s s] [.sl (sR (refLeads c s))] := by
  obtain ⟨R, hRe⟩ : ∃ R, R = refLeads c s := ⟨_, rfl⟩
  rw [← hRe]
  unfold refLeads at hRe
  obtain ⟨ins, outs, las, gts⟩ := c
  simp only at hl hg hRe
  refine ct_of (cls := _root_.id) tt_ok follows_ Tryd.func53 rfl (by decide) (Nat.le_of_ble_eq_true rfl) ?_
  rw [show Tryd.f53.ntmps = 50 from rfl, s0_nf]
  simp only [List.zipIdx_cons, List.zipIdx_nil, List.map_cons, List.map_nil, Nat.reduceAdd, cE]
  repeat' first | refine c_seq ?_ | refine c_block ?_ | refine c_reg' rfl fun K E hK hE => ?_ | (refine r_opN fun κ η => ?_; simp only [go_sem, simprocAttr, Nat.le_refl]; refine η _ ?_; clear η κ) | (refine r_nil (hK _ ?_); clear hE hK E K) | refine q_seq ?_
  refine c_loop (fun m s' => ∃ k : Nat, m = las.length - k ∧ k ≤ las.length ∧ (∀ (j : Nat) y, j < k → las[j]? = some y → stEq y.name s = false) ∧ ∃ F G0, s' = nf 50 F G0 [(1, .t (.s s)), (2, .ptr 2 1 0), (4, .nilS), (5, .t (.i .i64 k))] [] ∧ G0 2 = ⟨1, .cells 26 [.t (.sl (sR ins)), .t (.sl (sR outs)), .t (.sl (lsR las)), .t (.sl (gsR gts))]⟩) las.length ?_ ?_
  · exact ⟨0, by omega, by omega, fun j x hj => absurd hj (Nat.not_lt_zero j), _, _, nf_of rfl ⟨rfl, rfl, rfl, rfl, trivial⟩ trivial, rfl⟩
  rintro m s' ⟨k, rfl, hk, hno, F, G0, rfl, b2⟩
  by_cases hd : k < las.length
  · have hd' : ((k : Int) < las.length) = True := eq_true (by omega)
    obtain ⟨x, hx⟩ : ∃ x, las[k]? = some x := ⟨_, List.getElem?_eq_getElem hd⟩
    have hx' := lsR_get hx
    by_cases he : x.name = s
    · have he' := eq_true he
      rw [find_first hx ((stEq_iff _ _).2 he) hno] at hRe
      have hRe : R = [x.next] := hRe
      subst hRe
      repeat' first | refine c_seq ?_ | refine c_block ?_ | refine c_reg' rfl fun K E hK hE => ?_ | (refine r_opN fun κ η => ?_; simp only [go_sem, simprocAttr, Nat.le_refl, b2, hd', hx', he', decide_true]; (repeat refine ⟨by omega, ?_⟩); refine η _ ?_; clear η κ) | (refine r_nil (hK _ ?_); clear hE hK E K) | refine q_seq ?_ | refine c_cond true rfl (fun _ => ?_) (fun h => (by cases h)) | refine c_skip ?_ | refine c_ret ?_ | refine q_seqR ?_ | refine q_blkR ?_ | refine q_lpR ?_ | (refine q_ret ?_; refine q_r1 ?_; simp only [go_sem, simprocAttr, Nat.le_refl, b2, hd', hx', he', decide_true])
      rfl
    · have he' := eq_false he
      repeat' first | refine c_seq ?_ | refine c_block ?_ | refine c_reg' rfl fun K E hK hE => ?_ | (refine r_opN fun κ η => ?_; simp only [go_sem, simprocAttr, Nat.le_refl, b2, hd', hx', he', decide_false]; (repeat refine ⟨by omega, ?_⟩); refine η _ ?_; clear η κ) | (refine r_nil (hK _ ?_); clear hE hK E K) | refine q_seq ?_ | refine c_cond true rfl (fun _ => ?_) (fun h => (by cases h)) | refine c_cond false rfl (fun h => (by cases h)) fun _ => ?_ | refine q_blk ?_ | refine c_skip ?_ | refine q_lpN ?_
      refine ⟨las.length - (k + 1), by omega, k + 1, rfl, by omega, fun j y hj hy => ?_, _, _, nf_of rfl ⟨rfl, rfl, rfl, rfl, trivial⟩ trivial, b2⟩
      rcases Nat.lt_or_eq_of_le (Nat.lt_succ_iff.1 hj) with h | rfl
      · exact hno j y h hy
      · rw [hx] at hy; cases hy
        exact stEq_no he
  have hd' : ((k : Int) < las.length) = False := eq_false (by omega)
  rw [find_none fun j y hj => hno j y (by omega)] at hRe
  simp only at hRe
  repeat' first | refine c_seq ?_ | refine c_block ?_ | refine c_reg' rfl fun K E hK hE => ?_ | (refine r_opN fun κ η => ?_; simp only [go_sem, simprocAttr, Nat.le_refl, b2, hd']; (repeat refine ⟨by omega, ?_⟩); refine η _ ?_; clear η κ) | (refine r_nil (hK _ ?_); clear hE hK E K) | refine q_seq ?_ | refine c_cond false rfl (fun h => (by cases h)) fun _ => ?_ | refine c_exit ?_ | refine q_seqE ?_ | refine q_blkHit ?_ | refine q_lpE ?_
  refine c_loop (fun m s' => ∃ k : Nat, m = gts.length - k ∧ k ≤ gts.length ∧ (∀ (j : Nat) y, j < k → gts[j]? = some y → stEq y.name s = false) ∧ ∃ F G0, s' = nf 50 F G0 [(1, .t (.s s)), (2, .ptr 2 1 0), (4, .nilS), (6, .t (.i .i64 k))] [] ∧ G0 2 = ⟨1, .cells 26 [.t (.sl (sR ins)), .t (.sl (sR outs)), .t (.sl (lsR las)), .t (.sl (gsR gts))]⟩) gts.length ?_ ?_
  · exact ⟨0, by omega, by omega, fun j x hj => absurd hj (Nat.not_lt_zero j), _, _, nf_of rfl ⟨rfl, rfl, rfl, rfl, trivial⟩ trivial, b2⟩
  clear hno b2 hd hd' hk
  rintro m s' ⟨k, rfl, hk, hno, F, G0, rfl, b2⟩
  by_cases hd : k < gts.length
  · have hd' : ((k : Int) < gts.length) = True := eq_true (by omega)
    obtain ⟨x, hx⟩ : ∃ x, gts[k]? = some x := ⟨_, List.getElem?_eq_getElem hd⟩
    have hx' := gsR_get hx
    by_cases he : x.name = s
    · have he' := eq_true he
      rw [find_first hx ((stEq_iff _ _).2 he) hno] at hRe
      have hRe : R = x.ins := hRe
      subst hRe
      repeat' first | refine c_seq ?_ | refine c_block ?_ | refine c_reg' rfl fun K E hK hE => ?_ | (refine r_opN fun κ η => ?_; simp only [go_sem, simprocAttr, Nat.le_refl, b2, hd', hx', he', decide_true]; (repeat refine ⟨by omega, ?_⟩); refine η _ ?_; clear η κ) | (refine r_nil (hK _ ?_); clear hE hK E K) | refine q_seq ?_ | refine c_cond true rfl (fun _ => ?_) (fun h => (by cases h)) | refine c_skip ?_ | refine c_ret ?_ | refine q_seqR ?_ | refine q_blkR ?_ | refine q_lpR ?_ | (refine q_ret ?_; refine q_r1 ?_; simp only [go_sem, simprocAttr, Nat.le_refl, b2, hd', hx', he', decide_true])
    · have he' := eq_false he
      repeat' first | refine c_seq ?_ | refine c_block ?_ | refine c_reg' rfl fun K E hK hE => ?_ | (refine r_opN fun κ η => ?_; simp only [go_sem, simprocAttr, Nat.le_refl, b2, hd', hx', he', decide_false]; (repeat refine ⟨by omega, ?_⟩); refine η _ ?_; clear η κ) | (refine r_nil (hK _ ?_); clear hE hK E K) | refine q_seq ?_ | refine c_cond true rfl (fun _ => ?_) (fun h => (by cases h)) | refine c_cond false rfl (fun h => (by cases h)) fun _ => ?_ | refine q_blk ?_ | refine c_skip ?_ | refine q_lpN ?_
      refine ⟨gts.length - (k + 1), by omega, k + 1, rfl, by omega, fun j y hj hy => ?_, _, _, nf_of rfl ⟨rfl, rfl, rfl, rfl, trivial⟩ trivial, b2⟩
      rcases Nat.lt_or_eq_of_le (Nat.lt_succ_iff.1 hj) with h | rfl
      · exact hno j y h hy
      · rw [hx] at hy; cases hy
        exact stEq_no he
  · have hd' : ((k : Int) < gts.length) = False := eq_false (by omega)
    rw [find_none fun j y hj => hno j y (by omega)] at hRe
    have hRe : R = [] := hRe
    subst hRe
    repeat' first | refine c_seq ?_ | refine c_reg' rfl fun K E hK hE => ?_ | (refine r_opN fun κ η => ?_; simp only [go_sem, simprocAttr, Nat.le_refl, b2, hd']; (repeat refine ⟨by omega, ?_⟩); refine η _ ?_; clear η κ) | (refine r_nil (hK _ ?_); clear hE hK E K) | refine q_seq ?_ | refine c_cond false rfl (fun h => (by cases h)) fun _ => ?_ | refine c_exit ?_ | refine c_ret ?_ | refine q_seqE ?_ | refine q_blkHit ?_ | refine q_lpE ?_ | (refine q_ret ?_; refine q_r1 ?_; simp only [go_sem, simprocAttr, Nat.le_refl, b2, hd'])
    rfl
end Go.Proofs.YtbhoeanfnbkenaaDoor
namespace Go.Proofs.YtbhoeanfnbkenaaDoor
open Go.RowKit Go.WideMaps
set_option maxRecDepth 100000
set_option linter.unusedSimpArgs false
variable (Hy : World → Prop)
attribute [local irreducible] runM runD cwp seqQ blkQ lpQ retQ asQ bdQ bdY retP endR preD retD
theorem nat_some {c : Ci} {k : Nat} (h : k < (netsC c).length) : (netsC c)[k]? = some (nat_ c k) := by
  rw [List.getElem?_eq_getElem h, nat_at (List.getElem?_eq_getElem h)]
def coP (c : Ci) (th : Nat → Bool) (k : Nat) : List ByteArray := ((List.range k).filter th).map (nat_ c)
theorem coP_succ (c : Ci) (th : Nat → Bool) (k : Nat) : coP c th (k + 1) = coP c th k ++ if th k = true then [nat_ c k] else [] := by
  unfold coP
  rw [List.range_succ, List.filter_append, List.map_append]
  cases hc : th k <;> simp [List.filter_cons, hc]
theorem coP_len (c : Ci) (th : Nat → Bool) (k : Nat) : (coP c th k).length ≤ k := by
  unfold coP
  rw [List.length_map]
  exact Nat.le_trans (List.length_filter_le _ _) (by simp)
theorem ref_len {c : Ci} (hc : COk c) (s : ByteArray) : (refLeads c s).length ≤ 8 := by
  unfold refLeads
  split
  · exact Nat.le_of_ble_eq_true rfl
  · split
    · rename_i g hg
      exact hc.ins g (List.mem_of_find?_eq_some hg)
    · exact Nat.zero_le _
set_option maxHeartbeats 8000000 in
theorem rcone_ct (c : Ci) (hr : CRoom c) (hz : CSz c) (nets : List ByteArray) (hnl : nets.length ≤ 1000) : Ct Tryd.prog Hy 24 [.ag (cE c), .sl (sR nets)] [.sl (sR (coneC c nets))] := by
  have hri := fun (o : Nat → O) => Cm.of_ct (o := o) (rright_ct Hy c hr hz)
  by_cases h0 : (checkC c).1 = 0
  · have hmo := mok_of h0
    have hne := fun (o : Nat → O) => Cm.of_ct (o := o) (rnets_ct Hy c hmo.fit)
    have hn2 := hmo.n2
    have hle := fun s => rleads_ct Hy c s hmo.fit.las hmo.fit.gts
    have hrl := fun s => ref_len hmo.toCOk s
    have hat := fun {k} => nat_some (c := c) (k := k)
    have hco : coneC c nets = coP c (cN (netsC c).length (lkC c) (bsC c nets) ((netsC c).length + 1)) (netsC c).length := if_pos h0
    have hlk : ∀ k i, lkC c k i = usedB (refLeads c (nat_ c k)) (nat_ c i) := fun _ _ => rfl
    have hbs : ∀ i, bsC c nets i = usedB nets (nat_ c i) := fun _ => rfl
    have hcs := fun th k => coP_succ c th k
    have hcl := fun th k => coP_len c th k
    have hc0 : ∀ th, coP c th 0 = [] := fun _ => rfl
    rw [hco]
    rw [decide_eq_true h0] at hri
    clear hco
    generalize refLeads c = RL at *
    generalize nat_ c = nt at *
    generalize lkC c = lk at *
    generalize bsC c nets = bs at *
    generalize coP c = CP at *
    generalize netsC c = N at *
    have hz0 : List.replicate N.length [T.b false] = bR N.length none_ := by rw [bR_zero, thOf_nil]
    obtain ⟨ins, outs, las, gts⟩ := c
    simp only [cE] at hri hne hle ⊢
    refine ct_of (cls := _root_.id) tt_ok follows_ Tryd.func24 rfl (by decide) (Nat.le_of_ble_eq_true rfl) ?_
    rw [show Tryd.f24.ntmps = 85 from rfl, s0_nf]
    simp only [List.zipIdx_cons, List.zipIdx_nil, List.map_cons, List.map_nil, Nat.reduceAdd, cE]
    repeat' first | refine c_seq ?_ | refine c_reg' rfl fun K E hK hE => ?_ | (refine r_opN fun κ η => ?_; simp only [go_sem, simprocAttr, Nat.le_refl]; refine η _ ?_; clear η κ) | (refine r_nil (hK _ ?_); clear hE hK E K) | refine q_seq ?_
    refine r_callF fun κ η => ?_; simp only [go_sem, simprocAttr, Nat.le_refl]; refine ⟨_, (hri _), ?_⟩; rintro _ _ ⟨rfl, rfl⟩; simp only [go_sem, simprocAttr, Nat.le_refl]; refine η _ ?_; clear η κ
    repeat' first | refine c_seq ?_ | refine c_reg' rfl fun K E hK hE => ?_ | (refine r_opN fun κ η => ?_; simp only [go_sem, simprocAttr, Nat.le_refl]; refine η _ ?_; clear η κ) | (refine r_nil (hK _ ?_); clear hE hK E K) | refine q_seq ?_ | refine c_cond false rfl (fun h => (by cases h)) fun _ => ?_ | refine c_skip ?_
    refine r_callF fun κ η => ?_; simp only [go_sem, simprocAttr, Nat.le_refl]; refine ⟨_, (hne _), ?_⟩; rintro _ _ ⟨rfl, rfl⟩; simp only [go_sem, simprocAttr, Nat.le_refl]; refine η _ ?_; clear η κ
    repeat' first | refine c_seq ?_ | refine c_block ?_ | refine c_reg' rfl fun K E hK hE => ?_ | (refine r_opN fun κ η => ?_; simp only [go_sem, simprocAttr, Nat.le_refl, hz0]; (repeat refine ⟨by omega, ?_⟩); refine η _ ?_; clear η κ) | (refine r_nil (hK _ ?_); clear hE hK E K) | refine q_seq ?_
    refine c_loop (fun m s' => ∃ r : Nat, m = N.length + 1 - r ∧ r ≤ N.length + 1 ∧ ∃ F G0, s' = nf 85 F G0 [(1, .t (.sl (sR nets))), (2, .ptr 2 1 0), (5, .t (.sl (sR N))), (6, .row 19 1), (7, .t (.i .i64 r))] [] ∧ G0 2 = ⟨1, .cells 26 [.t (.sl (sR ins)), .t (.sl (sR outs)), .t (.sl (lsR las)), .t (.sl (gsR gts))]⟩ ∧ G0 19 = ⟨1, .row 4 1 (bR N.length (cN N.length lk bs r))⟩) (N.length + 1) ?_ ?_
    · exact ⟨0, by omega, by omega, _, _, nf_of rfl ⟨rfl, rfl, rfl, rfl, rfl, trivial⟩ trivial, rfl, rfl⟩
    rintro m s' ⟨r, rfl, hrn, F, G0, rfl, b2, b19⟩
    by_cases hd : r ≤ N.length
    · have hd' : ((r : Int) ≤ N.length) = True := eq_true (by omega)
      have hcN : cN N.length lk bs (r + 1) = (List.range N.length).foldl (cI N.length lk bs) (cN N.length lk bs r) := by
        unfold cN
        rw [range_fold]
        rfl
      generalize cN N.length lk bs r = th0 at *
      repeat' first | refine c_seq ?_ | refine c_block ?_ | refine c_reg' rfl fun K E hK hE => ?_ | (refine r_opN fun κ η => ?_; simp only [go_sem, simprocAttr, Nat.le_refl, hd']; refine η _ ?_; clear η κ) | (refine r_nil (hK _ ?_); clear hE hK E K) | refine q_seq ?_ | refine c_cond true rfl (fun _ => ?_) (fun h => (by cases h)) | refine c_skip ?_
      refine c_loop (fun m s' => ∃ i : Nat, m = N.length - i ∧ i ≤ N.length ∧ ∃ F G0, s' = nf 85 F G0 [(1, .t (.sl (sR nets))), (2, .ptr 2 1 0), (5, .t (.sl (sR N))), (6, .row 19 1), (7, .t (.i .i64 r)), (8, .t (.i .i64 i))] [] ∧ G0 2 = ⟨1, .cells 26 [.t (.sl (sR ins)), .t (.sl (sR outs)), .t (.sl (lsR las)), .t (.sl (gsR gts))]⟩ ∧ G0 19 = ⟨1, .row 4 1 (bR N.length ((List.range i).foldl (cI N.length lk bs) th0))⟩) N.length ?_ ?_
      · exact ⟨0, by omega, by omega, _, _, nf_of rfl ⟨rfl, rfl, rfl, rfl, rfl, rfl, trivial⟩ trivial, b2, b19⟩
      clear b2 b19
      rintro m s' ⟨i, rfl, hi, F, G0, rfl, b2, b19⟩
      by_cases he : i < N.length
      · have he' : ((i : Int) < N.length) = True := eq_true (by omega)
        have hni := sR_get (hat he)
        have hcI : (List.range (i + 1)).foldl (cI N.length lk bs) th0 = (List.range N.length).foldl (cK lk i) (cB bs ((List.range i).foldl (cI N.length lk bs) th0) i) := by
          rw [range_fold]
          rfl
        generalize (List.range i).foldl (cI N.length lk bs) th0 = th1 at *
        have hh := rHas_ct Hy nets (nt i) (by omega)
        rw [used_dec, ← hbs] at hh
        have hbi := bR_get (th := th1) he
        have hset := bR_set (N := N.length) (th := th1) i
        cases hb : bs i with
        | true =>
          rw [hb] at hh
          have hcb : cB bs th1 i = updB th1 i := by unfold cB; rw [if_pos hb]
          repeat' first | refine c_seq ?_ | refine c_block ?_ | refine c_reg' rfl fun K E hK hE => ?_ | (refine r_opN fun κ η => ?_; simp only [go_sem, simprocAttr, Nat.le_refl, he', hni]; (repeat refine ⟨by omega, ?_⟩); refine η _ ?_; clear η κ) | (refine r_nil (hK _ ?_); clear hE hK E K) | refine q_seq ?_ | refine c_cond true rfl (fun _ => ?_) (fun h => (by cases h)) | refine c_skip ?_
          refine r_opN fun κ η => ?_; simp only [go_sem, simprocAttr, Nat.le_refl]; refine ⟨_, hh, ?_⟩; simp only [go_sem, simprocAttr, Nat.le_refl]; refine η _ ?_; clear η κ
          repeat' first | refine c_seq ?_ | refine c_block ?_ | refine c_reg' rfl fun K E hK hE => ?_ | (refine r_opN fun κ η => ?_; simp only [go_sem, simprocAttr, Nat.le_refl, b19, hbi, hset]; (repeat refine ⟨by omega, ?_⟩); refine η _ ?_; clear η κ) | (refine r_nil (hK _ ?_); clear hE hK E K) | refine q_seq ?_ | refine c_cond true rfl (fun _ => ?_) (fun h => (by cases h))
          refine c_loop (fun m s' => ∃ k : Nat, m = N.length - k ∧ k ≤ N.length ∧ ∃ F G0, s' = nf 85 F G0 [(1, .t (.sl (sR nets))), (2, .ptr 2 1 0), (5, .t (.sl (sR N))), (6, .row 19 1), (7, .t (.i .i64 r)), (8, .t (.i .i64 i)), (9, .t (.i .i64 k))] [] ∧ G0 2 = ⟨1, .cells 26 [.t (.sl (sR ins)), .t (.sl (sR outs)), .t (.sl (lsR las)), .t (.sl (gsR gts))]⟩ ∧ G0 19 = ⟨1, .row 4 1 (bR N.length ((List.range k).foldl (cK lk i) (cB bs th1 i)))⟩) N.length ?_ ?_
          · exact ⟨0, by omega, by omega, _, _, nf_of rfl ⟨rfl, rfl, rfl, rfl, rfl, rfl, rfl, trivial⟩ trivial, b2, by rw [hcb]; first | rfl | exact b19⟩
          clear b2 b19 hbi hset hh
          rintro m s' ⟨k, rfl, hk, F, G0, rfl, b2, b19⟩
          by_cases hf : k < N.length
          · have hf' : ((k : Int) < N.length) = True := eq_true (by omega)
            have hnk := sR_get (hat hf)
            have hcK : (List.range (k + 1)).foldl (cK lk i) (cB bs th1 i) = cK lk i ((List.range k).foldl (cK lk i) (cB bs th1 i)) k := range_fold _ _ _
            generalize (List.range k).foldl (cK lk i) (cB bs th1 i) = th3 at *
            have hbk := bR_get (th := th3) hf
            have hbi := bR_get (th := th3) he
            have hset := bR_set (N := N.length) (th := th3) i
            have hl1 := hle (nt k)
            have hh := rHas_ct Hy (RL (nt k)) (nt i) (by have := hrl (nt k); omega)
            rw [used_dec, ← hlk] at hh
            rw [show cK lk i th3 k = if (th3 k && lk k i) = true then updB th3 i else th3 from rfl] at hcK
            cases ht : th3 k with
            | false =>
              rw [ht] at hbk hcK
              have hcK : (List.range (k + 1)).foldl (cK lk i) (cB bs th1 i) = th3 := hcK
              repeat' first | refine c_seq ?_ | refine c_block ?_ | refine c_reg' rfl fun K E hK hE => ?_ | refine c_draw' rfl (by kernel_rfl) fun K E hK hE => ?_ | ((first | refine r_opN fun κ η => ?_ | refine d_opN (by kernel_rfl) fun κ η => ?_ | refine d_opG (by kernel_rfl) rfl fun κ η => ?_); simp only [go_sem, simprocAttr, Nat.le_refl, hf', b19, hbk]; (repeat refine ⟨by omega, ?_⟩); refine η _ ?_; clear η κ) | (refine r_nil (hK _ ?_); clear hE hK E K) | refine q_seq ?_ | refine c_cond true rfl (fun _ => ?_) (fun h => (by cases h)) | refine c_cond false rfl (fun h => (by cases h)) fun _ => ?_ | (refine d_nil (hK _ ?_); clear hE hK E K) | refine q_blk ?_ | refine c_skip ?_ | refine q_lpN ?_
              exact ⟨N.length - (k + 1), by omega, k + 1, rfl, by omega, _, _, nf_of rfl ⟨rfl, rfl, rfl, rfl, rfl, rfl, rfl, trivial⟩ trivial, b2, by rw [hcK]; exact b19⟩
            | true =>
              rw [ht, Bool.true_and] at hcK
              rw [ht] at hbk
              cases hlv : lk k i with
              | true =>
                rw [hlv] at hh hcK
                rw [if_pos rfl] at hcK
                repeat' first | refine c_seq ?_ | refine c_block ?_ | refine c_reg' rfl fun K E hK hE => ?_ | refine c_draw' rfl (by kernel_rfl) fun K E hK hE => ?_ | ((first | refine r_opN fun κ η => ?_ | refine d_opN (by kernel_rfl) fun κ η => ?_ | refine d_opG (by kernel_rfl) rfl fun κ η => ?_); simp only [go_sem, simprocAttr, Nat.le_refl, hf', b19, hbk, b2, hnk]; (repeat refine ⟨by omega, ?_⟩); refine η _ ?_; clear η κ) | (refine r_nil (hK _ ?_); clear hE hK E K) | refine q_seq ?_ | refine c_cond true rfl (fun _ => ?_) (fun h => (by cases h)) | refine c_skip ?_
                refine d_opG (by kernel_rfl) rfl fun κ η => ?_; simp only [go_sem, simprocAttr, Nat.le_refl]; refine ⟨_, hl1, ?_⟩; simp only [go_sem, simprocAttr, Nat.le_refl]; refine η _ ?_; clear η κ
                repeat' (refine d_opG (by kernel_rfl) rfl fun κ η => ?_; simp only [go_sem, simprocAttr, Nat.le_refl, hni]; (repeat refine ⟨by omega, ?_⟩); refine η _ ?_; clear η κ)
                refine d_opG (by kernel_rfl) rfl fun κ η => ?_; simp only [go_sem, simprocAttr, Nat.le_refl]; refine ⟨_, hh, ?_⟩; simp only [go_sem, simprocAttr, Nat.le_refl]; refine η _ ?_; clear η κ
                repeat' first | refine c_reg' rfl fun K E hK hE => ?_ | ((first | refine r_opN fun κ η => ?_ | refine d_opN (by kernel_rfl) fun κ η => ?_); simp only [go_sem, simprocAttr, Nat.le_refl, b19, hbi, hset]; (repeat refine ⟨by omega, ?_⟩); refine η _ ?_; clear η κ) | (refine r_nil (hK _ ?_); clear hE hK E K) | refine q_seq ?_ | refine c_cond true rfl (fun _ => ?_) (fun h => (by cases h)) | (refine d_nil (hK _ ?_); clear hE hK E K) | refine q_blk ?_ | refine q_lpN ?_
                exact ⟨N.length - (k + 1), by omega, k + 1, rfl, by omega, _, _, nf_of rfl ⟨rfl, rfl, rfl, rfl, rfl, rfl, rfl, trivial⟩ trivial, b2, by rw [hcK]; rfl⟩
              | false =>
                rw [hlv] at hh hcK
                rw [if_neg (by decide)] at hcK
                repeat' first | refine c_seq ?_ | refine c_block ?_ | refine c_reg' rfl fun K E hK hE => ?_ | refine c_draw' rfl (by kernel_rfl) fun K E hK hE => ?_ | ((first | refine r_opN fun κ η => ?_ | refine d_opN (by kernel_rfl) fun κ η => ?_ | refine d_opG (by kernel_rfl) rfl fun κ η => ?_); simp only [go_sem, simprocAttr, Nat.le_refl, hf', b19, hbk, b2, hnk]; (repeat refine ⟨by omega, ?_⟩); refine η _ ?_; clear η κ) | (refine r_nil (hK _ ?_); clear hE hK E K) | refine q_seq ?_ | refine c_cond true rfl (fun _ => ?_) (fun h => (by cases h)) | refine c_skip ?_
                refine d_opG (by kernel_rfl) rfl fun κ η => ?_; simp only [go_sem, simprocAttr, Nat.le_refl]; refine ⟨_, hl1, ?_⟩; simp only [go_sem, simprocAttr, Nat.le_refl]; refine η _ ?_; clear η κ
                repeat' (refine d_opG (by kernel_rfl) rfl fun κ η => ?_; simp only [go_sem, simprocAttr, Nat.le_refl, hni]; (repeat refine ⟨by omega, ?_⟩); refine η _ ?_; clear η κ)
                refine d_opG (by kernel_rfl) rfl fun κ η => ?_; simp only [go_sem, simprocAttr, Nat.le_refl]; refine ⟨_, hh, ?_⟩; simp only [go_sem, simprocAttr, Nat.le_refl]; refine η _ ?_; clear η κ
                repeat' first | refine c_reg' rfl fun K E hK hE => ?_ | ((first | refine r_opN fun κ η => ?_ | refine d_opN (by kernel_rfl) fun κ η => ?_); simp only [go_sem, simprocAttr, Nat.le_refl]; (repeat refine ⟨by omega, ?_⟩); refine η _ ?_; clear η κ) | (refine r_nil (hK _ ?_); clear hE hK E K) | refine q_seq ?_ | refine c_cond false rfl (fun h => (by cases h)) fun _ => ?_ | (refine d_nil (hK _ ?_); clear hE hK E K) | refine q_blk ?_ | refine c_skip ?_ | refine q_lpN ?_
                exact ⟨N.length - (k + 1), by omega, k + 1, rfl, by omega, _, _, nf_of rfl ⟨rfl, rfl, rfl, rfl, rfl, rfl, rfl, trivial⟩ trivial, b2, by rw [hcK]; exact b19⟩
          · have hf' : ((k : Int) < N.length) = False := eq_false (by omega)
            obtain ⟨k, hke, rfl⟩ : ∃ n', n' = N.length ∧ n' = k := ⟨_, rfl, by omega⟩
            rw [hke, ← hcI] at b19
            repeat' first | refine c_seq ?_ | refine c_reg' rfl fun K E hK hE => ?_ | (refine r_opN fun κ η => ?_; simp only [go_sem, simprocAttr, Nat.le_refl, hf']; (repeat refine ⟨by omega, ?_⟩); refine η _ ?_; clear η κ) | (refine r_nil (hK _ ?_); clear hE hK E K) | refine q_seq ?_ | refine c_cond false rfl (fun h => (by cases h)) fun _ => ?_ | refine q_blk ?_ | refine c_exit ?_ | refine q_seqE ?_ | refine q_blkHit ?_ | refine q_lpE ?_ | refine q_lpN ?_
            exact ⟨N.length - (i + 1), by omega, i + 1, rfl, by omega, _, _, nf_of rfl ⟨rfl, rfl, rfl, rfl, rfl, rfl, trivial⟩ trivial, b2, b19⟩
        | false =>
          rw [hb] at hh
          have hcb : cB bs th1 i = th1 := by unfold cB; rw [if_neg (by rw [hb]; decide)]
          repeat' first | refine c_seq ?_ | refine c_block ?_ | refine c_reg' rfl fun K E hK hE => ?_ | (refine r_opN fun κ η => ?_; simp only [go_sem, simprocAttr, Nat.le_refl, he', hni]; (repeat refine ⟨by omega, ?_⟩); refine η _ ?_; clear η κ) | (refine r_nil (hK _ ?_); clear hE hK E K) | refine q_seq ?_ | refine c_cond true rfl (fun _ => ?_) (fun h => (by cases h)) | refine c_skip ?_
          refine r_opN fun κ η => ?_; simp only [go_sem, simprocAttr, Nat.le_refl]; refine ⟨_, hh, ?_⟩; simp only [go_sem, simprocAttr, Nat.le_refl]; refine η _ ?_; clear η κ
          repeat' first | refine c_seq ?_ | refine c_block ?_ | refine c_reg' rfl fun K E hK hE => ?_ | (refine r_opN fun κ η => ?_; simp only [go_sem, simprocAttr, Nat.le_refl]; refine η _ ?_; clear η κ) | (refine r_nil (hK _ ?_); clear hE hK E K) | refine q_seq ?_ | refine c_cond false rfl (fun h => (by cases h)) fun _ => ?_ | refine c_skip ?_
          refine c_loop (fun m s' => ∃ k : Nat, m = N.length - k ∧ k ≤ N.length ∧ ∃ F G0, s' = nf 85 F G0 [(1, .t (.sl (sR nets))), (2, .ptr 2 1 0), (5, .t (.sl (sR N))), (6, .row 19 1), (7, .t (.i .i64 r)), (8, .t (.i .i64 i)), (9, .t (.i .i64 k))] [] ∧ G0 2 = ⟨1, .cells 26 [.t (.sl (sR ins)), .t (.sl (sR outs)), .t (.sl (lsR las)), .t (.sl (gsR gts))]⟩ ∧ G0 19 = ⟨1, .row 4 1 (bR N.length ((List.range k).foldl (cK lk i) (cB bs th1 i)))⟩) N.length ?_ ?_
          · exact ⟨0, by omega, by omega, _, _, nf_of rfl ⟨rfl, rfl, rfl, rfl, rfl, rfl, rfl, trivial⟩ trivial, b2, by rw [hcb]; first | rfl | exact b19⟩
          clear b2 b19 hbi hset hh
          rintro m s' ⟨k, rfl, hk, F, G0, rfl, b2, b19⟩
          by_cases hf : k < N.length
          · have hf' : ((k : Int) < N.length) = True := eq_true (by omega)
            have hnk := sR_get (hat hf)
            have hcK : (List.range (k + 1)).foldl (cK lk i) (cB bs th1 i) = cK lk i ((List.range k).foldl (cK lk i) (cB bs th1 i)) k := range_fold _ _ _
            generalize (List.range k).foldl (cK lk i) (cB bs th1 i) = th3 at *
            have hbk := bR_get (th := th3) hf
            have hbi := bR_get (th := th3) he
            have hset := bR_set (N := N.length) (th := th3) i
            have hl1 := hle (nt k)
            have hh := rHas_ct Hy (RL (nt k)) (nt i) (by have := hrl (nt k); omega)
            rw [used_dec, ← hlk] at hh
            rw [show cK lk i th3 k = if (th3 k && lk k i) = true then updB th3 i else th3 from rfl] at hcK
            cases ht : th3 k with
            | false =>
              rw [ht] at hbk hcK
              have hcK : (List.range (k + 1)).foldl (cK lk i) (cB bs th1 i) = th3 := hcK
              repeat' first | refine c_seq ?_ | refine c_block ?_ | refine c_reg' rfl fun K E hK hE => ?_ | refine c_draw' rfl (by kernel_rfl) fun K E hK hE => ?_ | ((first | refine r_opN fun κ η => ?_ | refine d_opN (by kernel_rfl) fun κ η => ?_ | refine d_opG (by kernel_rfl) rfl fun κ η => ?_); simp only [go_sem, simprocAttr, Nat.le_refl, hf', b19, hbk]; (repeat refine ⟨by omega, ?_⟩); refine η _ ?_; clear η κ) | (refine r_nil (hK _ ?_); clear hE hK E K) | refine q_seq ?_ | refine c_cond true rfl (fun _ => ?_) (fun h => (by cases h)) | refine c_cond false rfl (fun h => (by cases h)) fun _ => ?_ | (refine d_nil (hK _ ?_); clear hE hK E K) | refine q_blk ?_ | refine c_skip ?_ | refine q_lpN ?_
              exact ⟨N.length - (k + 1), by omega, k + 1, rfl, by omega, _, _, nf_of rfl ⟨rfl, rfl, rfl, rfl, rfl, rfl, rfl, trivial⟩ trivial, b2, by rw [hcK]; exact b19⟩
            | true =>
              rw [ht, Bool.true_and] at hcK
              rw [ht] at hbk
              cases hlv : lk k i with
              | true =>
                rw [hlv] at hh hcK
                rw [if_pos rfl] at hcK
                repeat' first | refine c_seq ?_ | refine c_block ?_ | refine c_reg' rfl fun K E hK hE => ?_ | refine c_draw' rfl (by kernel_rfl) fun K E hK hE => ?_ | ((first | refine r_opN fun κ η => ?_ | refine d_opN (by kernel_rfl) fun κ η => ?_ | refine d_opG (by kernel_rfl) rfl fun κ η => ?_); simp only [go_sem, simprocAttr, Nat.le_refl, hf', b19, hbk, b2, hnk]; (repeat refine ⟨by omega, ?_⟩); refine η _ ?_; clear η κ) | (refine r_nil (hK _ ?_); clear hE hK E K) | refine q_seq ?_ | refine c_cond true rfl (fun _ => ?_) (fun h => (by cases h)) | refine c_skip ?_
                refine d_opG (by kernel_rfl) rfl fun κ η => ?_; simp only [go_sem, simprocAttr, Nat.le_refl]; refine ⟨_, hl1, ?_⟩; simp only [go_sem, simprocAttr, Nat.le_refl]; refine η _ ?_; clear η κ
                repeat' (refine d_opG (by kernel_rfl) rfl fun κ η => ?_; simp only [go_sem, simprocAttr, Nat.le_refl, hni]; (repeat refine ⟨by omega, ?_⟩); refine η _ ?_; clear η κ)
                refine d_opG (by kernel_rfl) rfl fun κ η => ?_; simp only [go_sem, simprocAttr, Nat.le_refl]; refine ⟨_, hh, ?_⟩; simp only [go_sem, simprocAttr, Nat.le_refl]; refine η _ ?_; clear η κ
                repeat' first | refine c_reg' rfl fun K E hK hE => ?_ | ((first | refine r_opN fun κ η => ?_ | refine d_opN (by kernel_rfl) fun κ η => ?_); simp only [go_sem, simprocAttr, Nat.le_refl, b19, hbi, hset]; (repeat refine ⟨by omega, ?_⟩); refine η _ ?_; clear η κ) | (refine r_nil (hK _ ?_); clear hE hK E K) | refine q_seq ?_ | refine c_cond true rfl (fun _ => ?_) (fun h => (by cases h)) | (refine d_nil (hK _ ?_); clear hE hK E K) | refine q_blk ?_ | refine q_lpN ?_
                exact ⟨N.length - (k + 1), by omega, k + 1, rfl, by omega, _, _, nf_of rfl ⟨rfl, rfl, rfl, rfl, rfl, rfl, rfl, trivial⟩ trivial, b2, by rw [hcK]; rfl⟩
              | false =>
                rw [hlv] at hh hcK
                rw [if_neg (by decide)] at hcK
                repeat' first | refine c_seq ?_ | refine c_block ?_ | refine c_reg' rfl fun K E hK hE => ?_ | refine c_draw' rfl (by kernel_rfl) fun K E hK hE => ?_ | ((first | refine r_opN fun κ η => ?_ | refine d_opN (by kernel_rfl) fun κ η => ?_ | refine d_opG (by kernel_rfl) rfl fun κ η => ?_); simp only [go_sem, simprocAttr, Nat.le_refl, hf', b19, hbk, b2, hnk]; (repeat refine ⟨by omega, ?_⟩); refine η _ ?_; clear η κ) | (refine r_nil (hK _ ?_); clear hE hK E K) | refine q_seq ?_ | refine c_cond true rfl (fun _ => ?_) (fun h => (by cases h)) | refine c_skip ?_
                refine d_opG (by kernel_rfl) rfl fun κ η => ?_; simp only [go_sem, simprocAttr, Nat.le_refl]; refine ⟨_, hl1, ?_⟩; simp only [go_sem, simprocAttr, Nat.le_refl]; refine η _ ?_; clear η κ
                repeat' (refine d_opG (by kernel_rfl) rfl fun κ η => ?_; simp only [go_sem, simprocAttr, Nat.le_refl, hni]; (repeat refine ⟨by omega, ?_⟩); refine η _ ?_; clear η κ)
                refine d_opG (by kernel_rfl) rfl fun κ η => ?_; simp only [go_sem, simprocAttr, Nat.le_refl]; refine ⟨_, hh, ?_⟩; simp only [go_sem, simprocAttr, Nat.le_refl]; refine η _ ?_; clear η κ
                repeat' first | refine c_reg' rfl fun K E hK hE => ?_ | ((first | refine r_opN fun κ η => ?_ | refine d_opN (by kernel_rfl) fun κ η => ?_); simp only [go_sem, simprocAttr, Nat.le_refl]; (repeat refine ⟨by omega, ?_⟩); refine η _ ?_; clear η κ) | (refine r_nil (hK _ ?_); clear hE hK E K) | refine q_seq ?_ | refine c_cond false rfl (fun h => (by cases h)) fun _ => ?_ | (refine d_nil (hK _ ?_); clear hE hK E K) | refine q_blk ?_ | refine c_skip ?_ | refine q_lpN ?_
                exact ⟨N.length - (k + 1), by omega, k + 1, rfl, by omega, _, _, nf_of rfl ⟨rfl, rfl, rfl, rfl, rfl, rfl, rfl, trivial⟩ trivial, b2, by rw [hcK]; exact b19⟩
          · have hf' : ((k : Int) < N.length) = False := eq_false (by omega)
            obtain ⟨k, hke, rfl⟩ : ∃ n', n' = N.length ∧ n' = k := ⟨_, rfl, by omega⟩
            rw [hke, ← hcI] at b19
            repeat' first | refine c_seq ?_ | refine c_reg' rfl fun K E hK hE => ?_ | (refine r_opN fun κ η => ?_; simp only [go_sem, simprocAttr, Nat.le_refl, hf']; (repeat refine ⟨by omega, ?_⟩); refine η _ ?_; clear η κ) | (refine r_nil (hK _ ?_); clear hE hK E K) | refine q_seq ?_ | refine c_cond false rfl (fun h => (by cases h)) fun _ => ?_ | refine q_blk ?_ | refine c_exit ?_ | refine q_seqE ?_ | refine q_blkHit ?_ | refine q_lpE ?_ | refine q_lpN ?_
            exact ⟨N.length - (i + 1), by omega, i + 1, rfl, by omega, _, _, nf_of rfl ⟨rfl, rfl, rfl, rfl, rfl, rfl, trivial⟩ trivial, b2, b19⟩
      · have he' : ((i : Int) < N.length) = False := eq_false (by omega)
        obtain ⟨i, hie, rfl⟩ : ∃ n', n' = N.length ∧ n' = i := ⟨_, rfl, by omega⟩
        rw [hie, ← hcN] at b19
        repeat' first | refine c_seq ?_ | refine c_reg' rfl fun K E hK hE => ?_ | (refine r_opN fun κ η => ?_; simp only [go_sem, simprocAttr, Nat.le_refl, he']; (repeat refine ⟨by omega, ?_⟩); refine η _ ?_; clear η κ) | (refine r_nil (hK _ ?_); clear hE hK E K) | refine q_seq ?_ | refine c_cond false rfl (fun h => (by cases h)) fun _ => ?_ | refine q_blk ?_ | refine c_exit ?_ | refine q_seqE ?_ | refine q_blkHit ?_ | refine q_lpE ?_ | refine q_lpN ?_
        exact ⟨N.length + 1 - (r + 1), by omega, r + 1, rfl, by omega, _, _, nf_of rfl ⟨rfl, rfl, rfl, rfl, rfl, trivial⟩ trivial, b2, b19⟩
    · have hd' : ((r : Int) ≤ N.length) = False := eq_false (by omega)
      obtain ⟨r, hre, rfl⟩ : ∃ n', n' = N.length + 1 ∧ n' = r := ⟨_, rfl, by omega⟩
      rw [← hre]
      generalize cN N.length lk bs r = th at *
      repeat' first | refine c_seq ?_ | refine c_block ?_ | refine c_reg' rfl fun K E hK hE => ?_ | (refine r_opN fun κ η => ?_; simp only [go_sem, simprocAttr, Nat.le_refl, hd']; refine η _ ?_; clear η κ) | (refine r_nil (hK _ ?_); clear hE hK E K) | refine q_seq ?_ | refine c_cond false rfl (fun h => (by cases h)) fun _ => ?_ | refine c_exit ?_ | refine q_seqE ?_ | refine q_blkHit ?_ | refine q_lpE ?_
      refine c_loop (fun m s' => ∃ k : Nat, m = N.length - k ∧ k ≤ N.length ∧ ∃ F G0 yy, s' = nf 85 F G0 [(5, .t (.sl (sR N))), (6, .row 19 1), (10, yy), (11, .t (.i .i64 k))] [] ∧ G0 19 = ⟨1, .row 4 1 (bR N.length th)⟩ ∧ Acc G0 83 9 1 (sR (CP th k)) yy) N.length ?_ ?_
      · exact ⟨0, by omega, by omega, _, _, _, nf_of rfl ⟨rfl, rfl, rfl, rfl, trivial⟩ trivial, b19, .inl ⟨by rw [hc0]; rfl, rfl⟩⟩
      clear b2 b19 hd hd'
      rintro m s' ⟨k, rfl, hk, F, G0, yy, rfl, b19, hy⟩
      by_cases hf : k < N.length
      · have hf' : ((k : Int) < N.length) = True := eq_true (by omega)
        have hnk := sR_get (hat hf)
        have hbk := bR_get (th := th) hf
        have hst := hcs th k
        have hlen : (sR (CP th k)).length ≤ 1000000 := by
          have := hcl th k
          rw [sR_len]
          omega
        cases ht : th k with
        | true =>
          rw [ht] at hbk
          rw [if_pos ht] at hst
          have hs2 : sR (CP th (k + 1)) = sR (CP th k) ++ [[.s (nt k)]] := by rw [hst, sR_app]; rfl
          rcases hy with ⟨y0, rfl⟩ | ⟨q', rfl, hr2⟩
          · rw [y0] at hs2
            repeat' first | refine c_seq ?_ | refine c_block ?_ | refine c_reg' rfl fun K E hK hE => ?_ | (refine r_opN fun κ η => ?_; simp only [go_sem, simprocAttr, Nat.le_refl, hf', b19, hbk, hnk]; (repeat refine ⟨by omega, ?_⟩); refine η _ ?_; clear η κ) | (refine r_nil (hK _ ?_); clear hE hK E K) | refine q_seq ?_ | refine c_cond true rfl (fun _ => ?_) (fun h => (by cases h)) | refine q_blk ?_ | refine c_skip ?_ | refine q_lpN ?_
            exact ⟨N.length - (k + 1), by omega, k + 1, rfl, by omega, _, _, _, nf_of rfl ⟨rfl, rfl, rfl, rfl, trivial⟩ trivial, b19, .inr ⟨_, rfl, by rw [hs2]; rfl⟩⟩
          · generalize sR (CP th k) = rw0 at hr2 hs2 hlen
            repeat' first | refine c_seq ?_ | refine c_block ?_ | refine c_reg' rfl fun K E hK hE => ?_ | (refine r_opN fun κ η => ?_; simp only [go_sem, simprocAttr, Nat.le_refl, hf', b19, hbk, hnk, hr2]; (repeat refine ⟨by omega, ?_⟩); refine η _ ?_; clear η κ) | (refine r_nil (hK _ ?_); clear hE hK E K) | refine q_seq ?_ | refine c_cond true rfl (fun _ => ?_) (fun h => (by cases h)) | refine q_blk ?_ | refine c_skip ?_ | refine q_lpN ?_
            exact ⟨N.length - (k + 1), by omega, k + 1, rfl, by omega, _, _, _, nf_of rfl ⟨rfl, rfl, rfl, rfl, trivial⟩ trivial, b19, .inr ⟨_, rfl, by rw [hs2]; rfl⟩⟩
        | false =>
          rw [ht] at hbk
          rw [if_neg (by rw [ht]; decide), List.append_nil] at hst
          repeat' first | refine c_seq ?_ | refine c_block ?_ | refine c_reg' rfl fun K E hK hE => ?_ | (refine r_opN fun κ η => ?_; simp only [go_sem, simprocAttr, Nat.le_refl, hf', b19, hbk]; (repeat refine ⟨by omega, ?_⟩); refine η _ ?_; clear η κ) | (refine r_nil (hK _ ?_); clear hE hK E K) | refine q_seq ?_ | refine c_cond true rfl (fun _ => ?_) (fun h => (by cases h)) | refine c_cond false rfl (fun h => (by cases h)) fun _ => ?_ | refine q_blk ?_ | refine c_skip ?_ | refine q_lpN ?_
          exact ⟨N.length - (k + 1), by omega, k + 1, rfl, by omega, _, _, yy, nf_of rfl ⟨rfl, rfl, rfl, rfl, trivial⟩ trivial, b19, by rw [hst]; exact hy⟩
      · have hf' : ((k : Int) < N.length) = False := eq_false (by omega)
        obtain ⟨k, hke, rfl⟩ : ∃ n', n' = N.length ∧ n' = k := ⟨_, rfl, by omega⟩
        rw [hke] at hy
        rcases hy with ⟨y0, rfl⟩ | ⟨q', rfl, hr2⟩
        · rw [y0]
          repeat' first | refine c_seq ?_ | refine c_reg' rfl fun K E hK hE => ?_ | (refine r_opN fun κ η => ?_; simp only [go_sem, simprocAttr, Nat.le_refl, hf']; refine η _ ?_; clear η κ) | (refine r_nil (hK _ ?_); clear hE hK E K) | refine q_seq ?_ | refine c_cond false rfl (fun h => (by cases h)) fun _ => ?_ | refine c_exit ?_ | refine c_ret ?_ | refine q_seqE ?_ | refine q_blkHit ?_ | refine q_lpE ?_ | (refine q_ret ?_; refine q_r1 ?_; simp only [go_sem, simprocAttr, Nat.le_refl, hf'])
        · repeat' first | refine c_seq ?_ | refine c_reg' rfl fun K E hK hE => ?_ | (refine r_opN fun κ η => ?_; simp only [go_sem, simprocAttr, Nat.le_refl, hf', hr2]; refine η _ ?_; clear η κ) | (refine r_nil (hK _ ?_); clear hE hK E K) | refine q_seq ?_ | refine c_cond false rfl (fun h => (by cases h)) fun _ => ?_ | refine c_exit ?_ | refine c_ret ?_ | refine q_seqE ?_ | refine q_blkHit ?_ | refine q_lpE ?_ | (refine q_ret ?_; refine q_r1 ?_; simp only [go_sem, simprocAttr, Nat.le_refl, hf', hr2])
  · have hco : coneC c nets = [] := if_neg h0
    rw [hco]
    rw [decide_eq_false h0] at hri
    obtain ⟨ins, outs, las, gts⟩ := c
    simp only [cE] at hri ⊢
    refine ct_of (cls := _root_.id) tt_ok follows_ Tryd.func24 rfl (by decide) (Nat.le_of_ble_eq_true rfl) ?_
    rw [show Tryd.f24.ntmps = 85 from rfl, s0_nf]
    simp only [List.zipIdx_cons, List.zipIdx_nil, List.map_cons, List.map_nil, Nat.reduceAdd, cE]
    repeat' first | refine c_seq ?_ | refine c_reg' rfl fun K E hK hE => ?_ | (refine r_opN fun κ η => ?_; simp only [go_sem, simprocAttr, Nat.le_refl]; refine η _ ?_; clear η κ) | (refine r_nil (hK _ ?_); clear hE hK E K) | refine q_seq ?_
    refine r_callF fun κ η => ?_; simp only [go_sem, simprocAttr, Nat.le_refl]; refine ⟨_, (hri _), ?_⟩; rintro _ _ ⟨rfl, rfl⟩; simp only [go_sem, simprocAttr, Nat.le_refl]; refine η _ ?_; clear η κ
    repeat' first | refine c_seq ?_ | refine c_reg' rfl fun K E hK hE => ?_ | (refine r_opN fun κ η => ?_; simp only [go_sem, simprocAttr, Nat.le_refl]; refine η _ ?_; clear η κ) | (refine r_nil (hK _ ?_); clear hE hK E K) | refine q_seq ?_ | refine c_cond true rfl (fun _ => ?_) (fun h => (by cases h)) | refine c_ret ?_ | refine q_seqR ?_ | (refine q_ret ?_; refine q_r1 ?_; simp only [go_sem, simprocAttr, Nat.le_refl])
    rfl
end Go.Proofs.YtbhoeanfnbkenaaDoor
