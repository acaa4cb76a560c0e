import Derived.Test.YtbhoeanfnbkenaaDoorY6
namespace Go.Proofs.YtbhoeanfnbkenaaDoor
open Go.RowKit Go.WideMaps
set_option maxRecDepth 100000
set_option linter.unusedSimpArgs false
variable (Hy : World → Prop)
attribute [local irreducible] runM runD cwp seqQ blkQ lpQ retQ asQ bdQ bdY retP endR preD retD
theorem cloneB_ct (w : List Bool) (h : w.length ≤ 1000000) : Ct Tryd.prog Hy 75 [.sl (bl w)] [.sl (bl w)] := by
  have hz := bl_one w
  have hbl := bl_len w
  generalize bl w = w at *
  refine ct_of (cls := _root_.id) tt_ok follows_ Tryd.func75 rfl (by decide) (Nat.le_of_ble_eq_true rfl) ?_
  rw [show Tryd.f75.ntmps = 8 from rfl, s0_nf]
  simp only [List.zipIdx_cons, List.zipIdx_nil, List.map_cons, List.map_nil, Nat.reduceAdd]
  repeat' first | refine c_seq ?_ | refine c_reg' rfl fun K E hK hE => ?_ | (refine r_opN fun κ η => ?_; simp only [go_sem, simprocAttr, Nat.le_refl]; refine η _ ?_; clear η κ) | (refine r_nil (hK _ ?_); clear hE hK E K) | refine q_seq ?_
  refine r_nilE fun κ η => ?_; simp only [go_sem, simprocAttr, Nat.le_refl]; refine ⟨η _ ?_, fun nil_ => η _ ?_⟩ <;> clear η κ
  · repeat' first | refine c_seq ?_ | refine c_reg' rfl fun K E hK hE => ?_ | (refine r_opN fun κ η => ?_; simp only [go_sem, simprocAttr, Nat.le_refl, hz]; (repeat refine ⟨by omega, ?_⟩); refine η _ ?_; clear η κ) | (refine r_nil (hK _ ?_); clear hE hK E K) | refine q_seq ?_ | refine c_cond false rfl (fun h => (by cases h)) fun _ => ?_ | refine c_skip ?_ | refine c_ret ?_ | (refine q_ret ?_; refine q_r1 ?_; simp only [go_sem, simprocAttr, Nat.le_refl, hz])
  · repeat' first | refine c_seq ?_ | refine c_reg' rfl fun K E hK hE => ?_ | (refine r_opN fun κ η => ?_; simp only [go_sem, simprocAttr, Nat.le_refl, nil_]; refine η _ ?_; clear η κ) | (refine r_nil (hK _ ?_); clear hE hK E K) | refine q_seq ?_ | refine c_cond true rfl (fun _ => ?_) (fun h => (by cases h)) | refine c_ret ?_ | refine q_seqR ?_ | (refine q_ret ?_; refine q_r1 ?_; simp only [go_sem, simprocAttr, Nat.le_refl, nil_])
theorem badS_nf {n : Nat} {F : Nat → A} {G : Nat → O} {ts : List (Nat × A)} {os : List (Nat × O)} (h : ∀ p ∈ os.map (·.1), ¬ badS p) : ∀ i, badS i → (nf n F G ts os).o i = G i := fun _ hi => lookO_other fun p hp e => h p hp (e ▸ hi)
def fitS (c : Ci) (seq : List (List Bool)) : Bool := seq.all fun x => decide (x.length = c.ins.length)
def outsN (c : Ci) (st : List Bool) (seq : List (List Bool)) (k : Nat) : List (List Bool) := (List.range k).map (outN c st seq)
theorem outsN_succ (c : Ci) (st : List Bool) (seq : List (List Bool)) (k : Nat) : outsN c st seq (k + 1) = outsN c st seq k ++ [outN c st seq k] := by
  unfold outsN
  rw [List.range_succ, List.map_append]
  rfl
theorem outsN_len (c : Ci) (st : List Bool) (seq : List (List Bool)) (k : Nat) : (outsN c st seq k).length = k := by simp [outsN]
def runErr (c : Ci) (st : List Bool) (seq : List (List Bool)) : Int := if (checkO c).1 = 0 then (if 40 < seq.length then 8 else if st.length = c.las.length ∧ fitS c seq = true then 0 else 11) else 1
def runC (c : Ci) (st : List Bool) (seq : List (List Bool)) : List (List Bool) × (List Bool × Int) := if runErr c st seq = 0 then (outsN c st seq seq.length, stN c st seq seq.length, 0) else ([], [], runErr c st seq)
theorem runC_bad {c : Ci} {st : List Bool} {seq : List (List Bool)} {e : Int} (h : runErr c st seq = e) (he : e ≠ 0) : runC c st seq = ([], [], e) := by
  unfold runC
  rw [h, if_neg he]
set_option maxHeartbeats 16000000 in
theorem srun_ct (c : Ci) (st : List Bool) (seq : List (List Bool)) (hr : CRoom c) (hgo : GOk c.gts) (hlo : LOk c.las) : Ct Tryd.prog Hy 39 [.ag (cE c), .sl (bl st), .sl (bb seq)] [.sl (bb (runC c st seq).1), .sl (bl (runC c st seq).2.1), .i .i64 (runC c st seq).2.2] := by
  have hmb := smayBe_ct Hy c hr hgo hlo
  by_cases h0 : (checkO c).1 = 0
  rotate_left
  · rw [runC_bad (if_neg h0) (by decide)]
    rw [decide_eq_false h0] at hmb
    obtain ⟨ins, outs, las, gts⟩ := c
    simp only [cE] at hmb ⊢
    refine ct_of (cls := _root_.id) tt_ok follows_ Tryd.func39 rfl (by decide) (Nat.le_of_ble_eq_true rfl) ?_
    rw [show Tryd.f39.ntmps = 56 from rfl, s0_nf]
    simp only [List.zipIdx_cons, List.zipIdx_nil, List.map_cons, List.map_nil, Nat.reduceAdd]
    repeat' first | refine c_seq ?_ | refine c_reg' rfl fun K E hK hE => ?_ | (refine r_opN fun κ η => ?_; simp only [go_sem, simprocAttr, Nat.le_refl]; refine η _ ?_; clear η κ) | (refine r_nil (hK _ ?_); clear hE hK E K) | refine q_seq ?_
    refine r_opN fun κ η => ?_; simp only [go_sem, simprocAttr, Nat.le_refl]; refine ⟨_, hmb, ?_⟩; simp only [go_sem, simprocAttr, Nat.le_refl]; refine η _ ?_; clear η κ
    repeat' first | refine c_seq ?_ | refine c_reg' rfl fun K E hK hE => ?_ | (refine r_opN fun κ η => ?_; simp only [go_sem, simprocAttr, Nat.le_refl]; refine η _ ?_; clear η κ) | (refine r_nil (hK _ ?_); clear hE hK E K) | refine q_seq ?_ | refine c_cond true rfl (fun _ => ?_) (fun h => (by cases h)) | refine c_ret ?_ | refine q_seqR ?_ | (refine q_ret ?_; refine q_r1 ?_; simp only [go_sem, simprocAttr, Nat.le_refl])
    rfl
  rw [decide_eq_true h0] at hmb
  by_cases h1 : 40 < seq.length
  · rw [runC_bad ((if_pos h0).trans (if_pos h1)) (by decide)]
    have h1' : ((40 : Int) < seq.length) = True := eq_true (by omega)
    obtain ⟨ins, outs, las, gts⟩ := c
    simp only [cE] at hmb ⊢
    refine ct_of (cls := _root_.id) tt_ok follows_ Tryd.func39 rfl (by decide) (Nat.le_of_ble_eq_true rfl) ?_
    rw [show Tryd.f39.ntmps = 56 from rfl, s0_nf]
    simp only [List.zipIdx_cons, List.zipIdx_nil, List.map_cons, List.map_nil, Nat.reduceAdd]
    repeat' first | refine c_seq ?_ | refine c_reg' rfl fun K E hK hE => ?_ | (refine r_opN fun κ η => ?_; simp only [go_sem, simprocAttr, Nat.le_refl]; refine η _ ?_; clear η κ) | (refine r_nil (hK _ ?_); clear hE hK E K) | refine q_seq ?_
    refine r_opN fun κ η => ?_; simp only [go_sem, simprocAttr, Nat.le_refl]; refine ⟨_, hmb, ?_⟩; simp only [go_sem, simprocAttr, Nat.le_refl]; refine η _ ?_; clear η κ
    repeat' first | refine c_seq ?_ | refine c_reg' rfl fun K E hK hE => ?_ | (refine r_opN fun κ η => ?_; simp only [go_sem, simprocAttr, Nat.le_refl, h1']; refine η _ ?_; clear η κ) | (refine r_nil (hK _ ?_); clear hE hK E K) | refine q_seq ?_ | refine c_cond true rfl (fun _ => ?_) (fun h => (by cases h)) | refine c_cond false rfl (fun h => (by cases h)) fun _ => ?_ | refine c_skip ?_ | refine c_ret ?_ | refine q_seqR ?_ | (refine q_ret ?_; refine q_r1 ?_; simp only [go_sem, simprocAttr, Nat.le_refl, h1'])
    rfl
  have h1' : ((40 : Int) < seq.length) = False := eq_false (by omega)
  by_cases h2 : st.length = c.las.length
  rotate_left
  · rw [runC_bad ((if_pos h0).trans ((if_neg h1).trans (if_neg fun h => h2 h.1))) (by decide)]
    have h2' : ((st.length : Int) = c.las.length) = False := eq_false (by omega)
    obtain ⟨ins, outs, las, gts⟩ := c
    simp only [cE] at hmb h2' ⊢
    refine ct_of (cls := _root_.id) tt_ok follows_ Tryd.func39 rfl (by decide) (Nat.le_of_ble_eq_true rfl) ?_
    rw [show Tryd.f39.ntmps = 56 from rfl, s0_nf]
    simp only [List.zipIdx_cons, List.zipIdx_nil, List.map_cons, List.map_nil, Nat.reduceAdd]
    repeat' first | refine c_seq ?_ | refine c_reg' rfl fun K E hK hE => ?_ | (refine r_opN fun κ η => ?_; simp only [go_sem, simprocAttr, Nat.le_refl]; refine η _ ?_; clear η κ) | (refine r_nil (hK _ ?_); clear hE hK E K) | refine q_seq ?_
    refine r_opN fun κ η => ?_; simp only [go_sem, simprocAttr, Nat.le_refl]; refine ⟨_, hmb, ?_⟩; simp only [go_sem, simprocAttr, Nat.le_refl]; refine η _ ?_; clear η κ
    repeat' first | refine c_seq ?_ | refine c_reg' rfl fun K E hK hE => ?_ | (refine r_opN fun κ η => ?_; simp only [go_sem, simprocAttr, Nat.le_refl, h1', h2']; (repeat refine ⟨by omega, ?_⟩); refine η _ ?_; clear η κ) | (refine r_nil (hK _ ?_); clear hE hK E K) | refine q_seq ?_ | refine c_cond true rfl (fun _ => ?_) (fun h => (by cases h)) | refine c_cond false rfl (fun h => (by cases h)) fun _ => ?_ | refine c_skip ?_ | refine c_ret ?_ | refine q_seqR ?_ | (refine q_ret ?_; refine q_r1 ?_; simp only [go_sem, simprocAttr, Nat.le_refl, h1', h2'])
    rfl
  have h2' : ((st.length : Int) = c.las.length) = True := eq_true (by omega)
  have hm := ((checkO_iff c).1 h0).1
  have hnm := newMachine_cm Hy c hm hr hgo hlo
  have hms := fun (g : Nat) (o : Nat → O) (h : Mch c g o) => msteps_cm Hy c st seq h
  have hit := fun (hf : fitS c seq = true) (g g3 g4 g5 : Nat) (I : Nat → (Nat → O) → Prop) hI (o : Nat → O) h0 hS lb => msteps_it Hy c hm st seq h2 (fun x hx => of_decide_eq_true (List.all_eq_true.1 hf x hx)) (by omega) (g := g) (g3 := g3) (g4 := g4) (g5 := g5) (I := I) hI (o := o) h0 hS lb
  obtain ⟨⟨hn, _⟩, _⟩ := may_200 hm
  have hcl := cloneB_ct Hy st (by omega)
  have hno : fitS c seq = false → runC c st seq = ([], [], 11) := fun hf => runC_bad ((if_pos h0).trans ((if_neg h1).trans (if_neg fun h => by rw [hf] at h; cases h.2))) (by decide)
  have hyes : fitS c seq = true → runC c st seq = (outsN c st seq seq.length, stN c st seq seq.length, 0) := fun hf => if_pos ((if_pos h0).trans ((if_neg h1).trans (if_pos ⟨h2, hf⟩)))
  have hos := outsN_succ c st seq
  have hol := outsN_len c st seq
  have hon0 : outsN c st seq 0 = [] := rfl
  have hst0 : stN c st seq 0 = st := rfl
  obtain ⟨R, hR⟩ : ∃ R, R = runC c st seq := ⟨_, rfl⟩
  rw [← hR]
  rw [← hR] at hno hyes
  have hfit : ∀ (k : Nat) (x : List Bool), seq[k]? = some x → ¬ x.length = c.ins.length → fitS c seq = false := fun k x hx hne => by
    unfold fitS
    rw [List.all_eq_false]
    exact ⟨x, List.mem_of_getElem? hx, by simpa using hne⟩
  have hfit2 : (∀ (j : Nat) x, j < seq.length → seq[j]? = some x → x.length = c.ins.length) → fitS c seq = true := fun h => by
    unfold fitS
    rw [List.all_eq_true]
    intro x hx
    obtain ⟨j, hj⟩ := List.getElem?_of_mem hx
    exact decide_eq_true (h j x (List.getElem?_eq_some_iff.1 hj).1 hj)
  simp only [cA] at hnm
  simp only [cE] at hmb ⊢
  clear hR h0
  generalize outsN c st seq = ON at *
  refine ct_of (cls := _root_.id) tt_ok follows_ Tryd.func39 rfl (by decide) (Nat.le_of_ble_eq_true rfl) ?_
  rw [show Tryd.f39.ntmps = 56 from rfl, s0_nf]
  simp only [List.zipIdx_cons, List.zipIdx_nil, List.map_cons, List.map_nil, Nat.reduceAdd]
  repeat' first | refine c_seq ?_ | refine c_reg' rfl fun K E hK hE => ?_ | (refine r_opN fun κ η => ?_; simp only [go_sem, simprocAttr, Nat.le_refl]; refine η _ ?_; clear η κ) | (refine r_nil (hK _ ?_); clear hE hK E K) | refine q_seq ?_
  refine r_opN fun κ η => ?_; simp only [go_sem, simprocAttr, Nat.le_refl]; refine ⟨_, hmb, ?_⟩; simp only [go_sem, simprocAttr, Nat.le_refl]; refine η _ ?_; clear η κ
  repeat' first | refine c_seq ?_ | refine c_block ?_ | refine c_reg' rfl fun K E hK hE => ?_ | (refine r_opN fun κ η => ?_; simp only [go_sem, simprocAttr, Nat.le_refl, h1', h2']; (repeat refine ⟨by omega, ?_⟩); refine η _ ?_; clear η κ) | (refine r_nil (hK _ ?_); clear hE hK E K) | refine q_seq ?_ | refine c_cond false rfl (fun h => (by cases h)) fun _ => ?_ | refine c_skip ?_
  refine c_loop (fun m s' => ∃ k, m = seq.length - k ∧ k ≤ seq.length ∧ (∀ (j : Nat) x, j < k → seq[j]? = some x → x.length = c.ins.length) ∧ ∃ F G0, s' = nf 56 F G0 [(1, .t (.sl (bl st))), (2, .t (.sl (bb seq))), (3, .ptr 3 1 0), (27, .t (.sl (bb seq))), (28, .t (.i .i64 seq.length)), (29, .t (.i .i64 k))] [] ∧ G0 3 = ⟨1, .cells 26 [.t (.sl (sR c.ins)), .t (.sl (sR c.outs)), .t (.sl (lsR c.las)), .t (.sl (gsR c.gts))]⟩) seq.length ?_ ?_
  · exact ⟨0, by omega, by omega, fun j x hj => absurd hj (Nat.not_lt_zero j), _, _, nf_of rfl ⟨rfl, rfl, rfl, rfl, rfl, rfl, trivial⟩ trivial, rfl⟩
  rintro m s' ⟨k, rfl, hk, hall, F, G0, rfl, b3⟩
  by_cases hd : k < seq.length
  · have hd' : ((k : Int) < seq.length) = True := eq_true (by omega)
    obtain ⟨x, hx⟩ : ∃ x, seq[k]? = some x := ⟨_, List.getElem?_eq_getElem hd⟩
    have hx' := bb_get hx
    by_cases hxl : x.length = c.ins.length
    · have hxl' : ((x.length : Int) = c.ins.length) = True := eq_true (by omega)
      repeat' first | refine c_seq ?_ | refine c_block ?_ | refine c_reg' rfl fun K E hK hE => ?_ | (refine r_opN fun κ η => ?_; simp only [go_sem, simprocAttr, Nat.le_refl, hd', hx', b3, hxl']; (repeat refine ⟨by omega, ?_⟩); refine η _ ?_; clear η κ) | (refine r_nil (hK _ ?_); clear hE hK E K) | refine q_seq ?_ | refine c_cond true rfl (fun _ => ?_) (fun h => (by cases h)) | refine c_cond false rfl (fun h => (by cases h)) fun _ => ?_ | refine q_blk ?_ | refine c_skip ?_ | refine q_lpN ?_
      refine ⟨seq.length - (k + 1), by omega, k + 1, rfl, by omega, fun j y hj hy => ?_, _, _, nf_of rfl ⟨rfl, rfl, rfl, rfl, rfl, rfl, trivial⟩ trivial, b3⟩
      rcases Nat.lt_or_eq_of_le (Nat.lt_succ_iff.1 hj) with h | rfl
      · exact hall j y h hy
      · rw [hx] at hy
        cases hy
        exact hxl
    · have hxl' : ((x.length : Int) = c.ins.length) = False := eq_false (by omega)
      obtain rfl := hno (hfit k x hx hxl)
      repeat' first | refine c_seq ?_ | refine c_block ?_ | refine c_reg' rfl fun K E hK hE => ?_ | (refine r_opN fun κ η => ?_; simp only [go_sem, simprocAttr, Nat.le_refl, hd', hx', b3, hxl']; (repeat refine ⟨by omega, ?_⟩); refine η _ ?_; clear η κ) | (refine r_nil (hK _ ?_); clear hE hK E K) | refine q_seq ?_ | refine c_cond true rfl (fun _ => ?_) (fun h => (by cases h)) | refine c_skip ?_ | refine c_ret ?_ | refine q_seqR ?_ | refine q_blkR ?_ | refine q_lpR ?_ | (refine q_ret ?_; refine q_r1 ?_; simp only [go_sem, simprocAttr, Nat.le_refl, hd', hx', b3, hxl'])
      rfl
  have hd' : ((k : Int) < seq.length) = False := eq_false (by omega)
  obtain rfl : k = seq.length := by omega
  have hft := hfit2 hall
  obtain rfl := hyes hft
  clear hno hyes hfit hfit2 hall
  repeat' first | refine c_seq ?_ | refine c_reg' rfl fun K E hK hE => ?_ | (refine r_opN fun κ η => ?_; simp only [go_sem, simprocAttr, Nat.le_refl, hd', b3]; refine η _ ?_; clear η κ) | (refine r_nil (hK _ ?_); clear hE hK E K) | refine q_seq ?_ | refine c_cond false rfl (fun h => (by cases h)) fun _ => ?_ | refine c_exit ?_ | refine q_seqE ?_ | refine q_blkHit ?_ | refine q_lpE ?_
  refine r_opN fun κ η => ?_; simp only [go_sem, simprocAttr, Nat.le_refl]; refine ⟨_, hcl, ?_⟩; simp only [go_sem, simprocAttr, Nat.le_refl]; refine η _ ?_; clear η κ
  repeat' first | refine c_seq ?_ | refine c_reg' rfl fun K E hK hE => ?_ | (refine r_opN fun κ η => ?_; simp only [go_sem, simprocAttr, Nat.le_refl, b3]; refine η _ ?_; clear η κ) | (refine r_nil (hK _ ?_); clear hE hK E K) | refine q_seq ?_
  refine r_call fun κ η => ?_; simp only [go_sem, simprocAttr, Nat.le_refl]; refine ⟨_, hnm _, ?_⟩; rintro _ o1 ⟨g, rfl, hmc, hfI⟩; simp only [go_sem, simprocAttr, Nat.le_refl]; refine η _ ?_; clear η κ
  repeat' (refine r_opN fun κ η => ?_; simp only [go_sem, simprocAttr, Nat.le_refl]; refine η _ ?_; clear η κ)
  refine r_call fun κ η => ?_; simp only [go_sem, simprocAttr, Nat.le_refl]; refine ⟨_, hms _ _ hmc, ?_⟩; rintro _ o2 ⟨g3, g4, g5, rfl, hS, hfJ⟩; simp only [go_sem, simprocAttr, Nat.le_refl]; refine η _ ?_; clear η κ
  have e11 : o2 11 = ⟨(G0 11).gen + 1, .cells 54 [.nilS]⟩ := ((hfJ 11 (by omega)).trans (hfI 11 (by omega))).trans rfl
  have e12 : o2 12 = ⟨(G0 12).gen + 1, .cells 49 [.t (.sl (bl st))]⟩ := ((hfJ 12 (by omega)).trans (hfI 12 (by omega))).trans rfl
  clear hfJ hfI hmc
  let I : Nat → (Nat → O) → Prop := fun k o => ∃ x, o 11 = ⟨(G0 11).gen + 1, .cells 54 [x]⟩ ∧ Acc o 52 49 1 (bb (ON k)) x ∧ o 12 = ⟨(G0 12).gen + 1, .cells 49 [.t (.sl (bl (stN c st seq k)))]⟩
  have hI : ∀ n o o', I n o → FrS o o' → I n o' := fun n o o' ⟨x, h1, h2, h3⟩ hf => by
    refine ⟨x, (hf 11 (by unfold badS badW badV; omega)).trans h1, ?_, (hf 12 (by unfold badS badW badV; omega)).trans h3⟩
    rcases h2 with h2 | ⟨q, e, h2⟩
    · exact .inl h2
    · exact .inr ⟨q, e, (hf 52 (by unfold badS badW badV; omega)).trans h2⟩
  have hI0 : I 0 o2 := ⟨.nilS, e11, .inl ⟨by rw [hon0]; rfl, rfl⟩, e12⟩
  repeat' first | refine c_block ?_ | (refine r_nil (hK _ ?_); clear hE hK E K) | refine q_seq ?_
  refine c_rangeY (YS c st seq I) _ rfl (fun lb => hit hft g g3 g4 g5 I hI _ hI0 hS lb) (fun args o1 Rb hy => ?_) (fun rs o' hr => ?_)
  · obtain ⟨k, hkl, rfl, ⟨x, i11, hx, i12⟩, hRb⟩ := hy
    refine ⟨rfl, ?_⟩
    have hsn : bb (ON (k + 1)) = bb (ON k) ++ [[.sl (bl (outN c st seq k))]] := by rw [hos, bb_app]; rfl
    have hlen : (bb (ON k)).length ≤ 1000 := by rw [bb_len, hol]; omega
    generalize bb (ON k) = rw0 at hsn hlen hx
    simp only [go_sem]
    repeat' first | refine c_seq ?_ | refine c_reg' rfl fun K E hK hE => ?_ | (refine r_opN fun κ η => ?_; simp only [go_sem, simprocAttr, Nat.le_refl]; refine η _ ?_; clear η κ) | (refine r_nil (hK _ ?_); clear hE hK E K) | refine q_seq ?_
    refine q_as ?_
    rcases hx with ⟨y0, rfl⟩ | ⟨q, rfl, hr2⟩
    · rw [y0] at hsn
      repeat' first | refine c_seq ?_ | refine c_block ?_ | refine c_reg' rfl fun K E hK hE => ?_ | (refine r_opN fun κ η => ?_; simp only [go_sem, simprocAttr, Nat.le_refl, i11, i12]; refine η _ ?_; clear η κ) | (refine r_nil (hK _ ?_); clear hE hK E K) | refine q_seq ?_ | refine q_blk ?_
      exact q_by (hRb _ ⟨_, rfl, .inr ⟨_, rfl, by rw [hsn]; rfl⟩, rfl⟩ (badS_nf fun p hp => by simp only [List.map_cons, List.map_nil, List.mem_cons, List.not_mem_nil, or_false] at hp; unfold badS badW badV; omega))
    · repeat' first | refine c_seq ?_ | refine c_block ?_ | refine c_reg' rfl fun K E hK hE => ?_ | (refine r_opN fun κ η => ?_; simp only [go_sem, simprocAttr, Nat.le_refl, i11, i12, hr2]; (repeat refine ⟨by omega, ?_⟩); refine η _ ?_; clear η κ) | (refine r_nil (hK _ ?_); clear hE hK E K) | refine q_seq ?_ | refine q_blk ?_
      exact q_by (hRb _ ⟨_, rfl, .inr ⟨_, rfl, by rw [hsn]; rfl⟩, rfl⟩ (badS_nf fun p hp => by simp only [List.map_cons, List.map_nil, List.mem_cons, List.not_mem_nil, or_false] at hp; unfold badS badW badV; omega))
  · obtain ⟨rfl, x, i11, hx, i12⟩ := hr
    rcases hx with ⟨y0, rfl⟩ | ⟨q, rfl, hr2⟩
    · rw [y0]
      repeat' first | refine c_seq ?_ | refine c_draw' rfl (by kernel_rfl) fun K E hK hE => ?_ | (refine d_opN (by kernel_rfl) fun κ η => ?_; simp only [go_sem, simprocAttr, Nat.le_refl, i11, i12]; refine η _ ?_; clear η κ) | refine q_seq ?_ | (refine d_nil (hK _ ?_); clear hE hK E K) | refine q_blk ?_ | refine c_ret ?_ | (refine q_ret ?_; refine q_r1 ?_; simp only [go_sem, simprocAttr, Nat.le_refl, i11, i12])
    · repeat' first | refine c_seq ?_ | refine c_draw' rfl (by kernel_rfl) fun K E hK hE => ?_ | (refine d_opN (by kernel_rfl) fun κ η => ?_; simp only [go_sem, simprocAttr, Nat.le_refl, i11, i12, hr2]; refine η _ ?_; clear η κ) | refine q_seq ?_ | (refine d_nil (hK _ ?_); clear hE hK E K) | refine q_blk ?_ | refine c_ret ?_ | (refine q_ret ?_; refine q_r1 ?_; simp only [go_sem, simprocAttr, Nat.le_refl, i11, i12, hr2])
end Go.Proofs.YtbhoeanfnbkenaaDoor
