import Derived.Test.YtbhoeanfnbkenaaDoorY9
import Derived.Test.YtbhoeanfnbkenaaDoorY11
import Derived.Test.YtbhoeanfnbkenaaDoorR40p
import Derived.Test.YtbhoeanfnbkenaaDoorR8
namespace Go.Proofs.YtbhoeanfnbkenaaDoor
open Go.RowKit Go.WideMaps
set_option maxRecDepth 100000
set_option linter.unusedSimpArgs false
variable (Hy : World → Prop)
attribute [local irreducible] runM runD cwp seqQ blkQ lpQ retQ asQ bdQ bdY retP endR preD retD
theorem outsN_congr {c d : Ci} {st st' : List Bool} {seq : List (List Bool)} {n : Nat} (h : ∀ j, j < n → outN d st' seq j = outN c st seq j) : outsN d st' seq n = outsN c st seq n :=
  List.map_congr_left fun j hj => h j (List.mem_range.1 hj)
theorem runErr_same {c d : Ci} {st st' : List Bool} {seq : List (List Bool)} (hc : (checkO c).1 = 0) (hd : (checkO d).1 = 0) (hs : st.length = c.las.length) (hs' : st'.length = d.las.length) (hi : d.ins.length = c.ins.length) : runErr d st' seq = runErr c st seq := by
  unfold runErr fitS
  rw [if_pos hc, if_pos hd, hi]
  simp only [hs, hs', true_and]
theorem runErr_fit {c : Ci} {st : List Bool} {seq : List (List Bool)} (h : runErr c st seq = 0) : ∀ x ∈ seq, x.length = c.ins.length := by
  unfold runErr at h
  split at h
  · split at h
    · cases h
    · split at h
      · rename_i h2
        exact fun x hx => of_decide_eq_true (List.all_eq_true.1 h2.2 x hx)
      · cases h
  · cases h
theorem run_same_perm {c : Ci} (hm : MayC c) (hz : neverG c.gts = []) {gs : List Gt} (hp : gs.Perm c.gts) {st : List Bool} {seq : List (List Bool)} (hs : st.length = c.las.length) :
    (checkO ⟨c.ins, c.outs, c.las, gs⟩).1 = 0 ∧ (runC ⟨c.ins, c.outs, c.las, gs⟩ st seq).1 = (runC c st seq).1 ∧ (runC ⟨c.ins, c.outs, c.las, gs⟩ st seq).2.2 = (runC c st seq).2.2 := by
  have hc : (checkO c).1 = 0 := (checkO_iff c).2 ⟨hm, hz⟩
  have hd : (checkO ⟨c.ins, c.outs, c.las, gs⟩).1 = 0 := (checkO_iff _).2 ⟨hm.perm hp, never_sub (may_uniq hm.may) hz fun g hg => hp.mem_iff.1 hg⟩
  have he : runErr ⟨c.ins, c.outs, c.las, gs⟩ st seq = runErr c st seq := runErr_same hc hd hs hs rfl
  refine ⟨hd, ?_⟩
  unfold runC
  rw [he]
  by_cases h0 : runErr c st seq = 0
  · rw [if_pos h0, if_pos h0]
    exact ⟨outsN_congr (run_perm hm hz hp hs (runErr_fit h0) seq.length (Nat.le_refl _)).2, rfl⟩
  · rw [if_neg h0, if_neg h0]
    exact ⟨rfl, rfl⟩
theorem run_same_trim {c : Ci} (hm : MayC c) (hz : neverG c.gts = []) {st : List Bool} {seq : List (List Bool)} (hs : st.length = c.las.length) :
    (runC (trimD c) (leftL (keepB c) c.las st) seq).1 = (runC c st seq).1 ∧ (runC (trimD c) (leftL (keepB c) c.las st) seq).2.2 = (runC c st seq).2.2 := by
  have hc : (checkO c).1 = 0 := (checkO_iff c).2 ⟨hm, hz⟩
  have hd : (checkO (trimD c)).1 = 0 := (checkO_iff _).2 ⟨trimD_may hm, never_sub (may_uniq hm.may) hz fun g hg => (List.mem_filter.1 hg).1⟩
  have hl : (leftL (keepB c) c.las st).length = (trimD c).las.length := leftL_len _ _ _ hs
  have he : runErr (trimD c) (leftL (keepB c) c.las st) seq = runErr c st seq := runErr_same hc hd hs hl rfl
  unfold runC
  rw [he]
  by_cases h0 : runErr c st seq = 0
  · rw [if_pos h0, if_pos h0]
    exact ⟨outsN_congr (run_trim hm hz hs (runErr_fit h0) seq.length (Nat.le_refl _)).2, rfl⟩
  · rw [if_neg h0, if_neg h0]
    exact ⟨rfl, rfl⟩
theorem runC_len (c : Ci) (st : List Bool) (seq : List (List Bool)) : (runC c st seq).1.length ≤ seq.length ∧ ∀ x ∈ (runC c st seq).1, x.length = c.outs.length := by
  unfold runC
  split
  · refine ⟨by rw [outsN_len]; exact Nat.le_refl _, fun x hx => ?_⟩
    unfold outsN at hx
    obtain ⟨k, _, rfl⟩ := List.mem_map.1 hx
    exact gvs_len c _ _
  · exact ⟨Nat.zero_le _, fun x hx => by cases hx⟩
theorem leftL_take (p : ByteArray → Bool) : ∀ (l : List La) (st : List Bool) (k : Nat) (x : La) (v : Bool), l[k]? = some x → st[k]? = some v → leftL p (l.take (k + 1)) st = leftL p (l.take k) st ++ if p x.name = true then [v] else []
  | [], _, k, _, _, h, _ => by simp at h
  | y :: l, [], k, _, _, _, h => by simp at h
  | y :: l, w :: st, 0, x, v, h, h2 => by
    simp only [List.getElem?_cons_zero, Option.some.injEq] at h h2
    subst h h2
    rw [List.take_succ_cons, List.take_zero, List.take_zero]
    unfold leftL
    split <;> (cases st <;> simp [leftL])
  | y :: l, w :: st, k + 1, x, v, h, h2 => by
    have ih := leftL_take p l st k x v (by rw [List.getElem?_cons_succ] at h; exact h) (by rw [List.getElem?_cons_succ] at h2; exact h2)
    rw [List.take_succ_cons, List.take_succ_cons]
    unfold leftL
    rw [ih]
    split <;> simp
theorem leftL_le (p : ByteArray → Bool) : ∀ (l : List La) (st : List Bool), (leftL p l st).length ≤ l.length
  | [], st => by cases st <;> simp [leftL]
  | _ :: _, [] => by simp [leftL]
  | x :: l, v :: st => by
    have := leftL_le p l st
    unfold leftL
    split
    · rw [List.length_cons, List.length_cons]; omega
    · rw [List.length_cons]; omega
theorem place_trim {c : Ci} (hm : MayC c) {x : La} (hx : x ∈ c.las) : decide (0 ≤ plC (trimD c) x.name) = keepB c x.name := by
  obtain ⟨a1, a2, a3, _⟩ := nets_apart hm.may
  have h1 : decide (0 ≤ plC (trimD c) x.name) = decide (x.name ∈ netsC (trimD c)) := by
    unfold plC
    rw [ixI_ge]
    rw [Bool.eq_iff_iff, List.any_eq_true, decide_eq_true_eq]
    exact ⟨fun ⟨y, hy, e⟩ => (of_decide_eq_true e) ▸ hy, fun h => ⟨_, h, decide_eq_true rfl⟩⟩
  rw [h1, Bool.eq_iff_iff, decide_eq_true_eq]
  constructor
  · intro h
    unfold netsC trimD at h
    simp only [List.mem_append, List.mem_map, List.mem_filter] at h
    rcases h with h | ⟨y, ⟨hy, hk⟩, e⟩ | ⟨g, ⟨hg, hk⟩, e⟩
    · exact absurd rfl ((a1 _ h).1 x hx)
    · rw [← e]; exact hk
    · exact absurd e (a2 x hx g hg)
  · intro h
    refine trimD_mem ?_ h
    unfold netsC
    exact List.mem_append_right _ (List.mem_append_left _ (List.mem_map.2 ⟨x, hx, rfl⟩))
set_option maxHeartbeats 2000000 in
theorem rplace_ct (c : Ci) (s : ByteArray) (hc : CFit c) : Ct Tryd.prog Hy 40 [.ag (cE c), .s s] [.i .i64 (plC c s)] := by
  have h1 := rnets_ct Hy c hc
  have hl : (netsC c).length ≤ 10000000 := by rw [nets_le]; have := hc.ins; have := hc.las; have := hc.gts; omega
  obtain ⟨R, hR⟩ : ∃ R, R = plC c s := ⟨_, rfl⟩
  rw [← hR]
  unfold plC at hR
  generalize netsC c = l at *
  obtain ⟨ins, outs, las, gts⟩ := c
  simp only [cE] at h1 ⊢
  refine ct_of (cls := _root_.id) tt_ok follows_ Tryd.func40 rfl (by decide) (Nat.le_of_ble_eq_true rfl) ?_
  rw [show Tryd.f40.ntmps = 22 from rfl, s0_nf]
  simp only [List.zipIdx_cons, List.zipIdx_nil, List.map_cons, List.map_nil, Nat.reduceAdd]
  repeat' first | refine c_seq ?_ | refine c_reg' rfl fun K E hK hE => ?_ | (refine r_opN fun κ η => ?_; simp only [go_sem, simprocAttr, Nat.le_refl]; refine η _ ?_; clear η κ) | (refine r_nil (hK _ ?_); clear hE hK E K) | refine q_seq ?_
  refine r_opN fun κ η => ?_; simp only [go_sem, simprocAttr, Nat.le_refl]; refine ⟨_, h1, ?_⟩; simp only [go_sem, simprocAttr, Nat.le_refl]; refine η _ ?_; clear η κ
  repeat' first | refine c_seq ?_ | refine c_block ?_ | refine c_reg' rfl fun K E hK hE => ?_ | (refine r_opN fun κ η => ?_; simp only [go_sem, simprocAttr, Nat.le_refl]; refine η _ ?_; clear η κ) | (refine r_nil (hK _ ?_); clear hE hK E K) | refine q_seq ?_
  refine c_loop (fun m s' => ∃ k : Nat, m = l.length - k ∧ k ≤ l.length ∧ (∀ (j : Nat) y, j < k → l[j]? = some y → decide (y = s) = false) ∧ ∃ F G0, s' = nf 22 F G0 [(1, .t (.s s)), (5, .t (.sl (sR l))), (6, .t (.i .i64 k))] []) l.length ?_ ?_
  · exact ⟨0, by omega, by omega, fun j _ hj => absurd hj (Nat.not_lt_zero j), _, _, nf_of rfl ⟨rfl, rfl, rfl, trivial⟩ trivial⟩
  rintro m s' ⟨k, rfl, hk, hno, F, G0, rfl⟩
  by_cases hd : k < l.length
  · have hd' : ((k : Int) < l.length) = True := eq_true (by omega)
    obtain ⟨x, hx⟩ : ∃ x, l[k]? = some x := ⟨_, List.getElem?_eq_getElem (by omega)⟩
    have hx' := sR_get hx
    by_cases he : x = s
    · have he' := eq_true he
      obtain rfl : R = k := by rw [hR, ixI_some hx (decide_eq_true he) hno]
      repeat' first | refine c_seq ?_ | refine c_block ?_ | refine c_reg' rfl fun K E hK hE => ?_ | (refine r_opN fun κ η => ?_; simp only [go_sem, simprocAttr, Nat.le_refl, hd', hx', he', decide_true]; (repeat refine ⟨by omega, ?_⟩); refine η _ ?_; clear η κ) | (refine r_nil (hK _ ?_); clear hE hK E K) | refine q_seq ?_ | refine c_cond true rfl (fun _ => ?_) (fun h => (by cases h)) | refine c_skip ?_ | refine c_ret ?_ | refine q_seqR ?_ | refine q_blkR ?_ | refine q_lpR ?_ | (refine q_ret ?_; refine q_r1 ?_; simp only [go_sem, simprocAttr, Nat.le_refl, hd', hx', he', decide_true])
    · have he' := eq_false he
      repeat' first | refine c_seq ?_ | refine c_block ?_ | refine c_reg' rfl fun K E hK hE => ?_ | (refine r_opN fun κ η => ?_; simp only [go_sem, simprocAttr, Nat.le_refl, hd', hx', he', decide_false]; (repeat refine ⟨by omega, ?_⟩); refine η _ ?_; clear η κ) | (refine r_nil (hK _ ?_); clear hE hK E K) | refine q_seq ?_ | refine c_cond true rfl (fun _ => ?_) (fun h => (by cases h)) | refine c_cond false rfl (fun h => (by cases h)) fun _ => ?_ | refine q_blk ?_ | refine c_skip ?_ | refine q_lpN ?_
      refine ⟨l.length - (k + 1), by omega, k + 1, rfl, by omega, fun j y hj hy => ?_, _, _, nf_of rfl ⟨rfl, rfl, rfl, trivial⟩ trivial⟩
      rcases Nat.lt_or_eq_of_le (Nat.lt_succ_iff.1 hj) with h | rfl
      · exact hno j y h hy
      · rw [hx] at hy
        cases hy
        exact decide_eq_false he
  · have hd' : ((k : Int) < l.length) = False := eq_false (by omega)
    obtain rfl : R = -1 := by rw [hR, ixI_none fun j y hj hy => hno j y (by omega) hy]
    repeat' first | refine c_seq ?_ | refine c_reg' rfl fun K E hK hE => ?_ | (refine r_opN fun κ η => ?_; simp only [go_sem, simprocAttr, Nat.le_refl, hd']; refine η _ ?_; clear η κ) | (refine r_nil (hK _ ?_); clear hE hK E K) | refine q_seq ?_ | refine c_cond false rfl (fun h => (by cases h)) fun _ => ?_ | refine c_exit ?_ | refine c_ret ?_ | refine q_seqE ?_ | refine q_blkHit ?_ | refine q_lpE ?_ | (refine q_ret ?_; refine q_r1 ?_; simp only [go_sem, simprocAttr, Nat.le_refl, hd'])
end Go.Proofs.YtbhoeanfnbkenaaDoor
