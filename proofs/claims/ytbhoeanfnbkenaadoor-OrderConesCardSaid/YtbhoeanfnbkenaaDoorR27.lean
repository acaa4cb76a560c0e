import Derived.Test.YtbhoeanfnbkenaaDoorR25
import Derived.Test.YtbhoeanfnbkenaaDoorR22
import Derived.Test.YtbhoeanfnbkenaaDoorR18
namespace Go.Proofs.YtbhoeanfnbkenaaDoor
open Go.RowKit Go.WideMaps
set_option maxRecDepth 100000
set_option linter.unusedSimpArgs false
variable (Hy : World → Prop)
attribute [local irreducible] runM runD cwp seqQ blkQ lpQ retQ asQ bdQ bdY retP endR preD retD
set_option maxHeartbeats 4000000 in
theorem rocheck_ct (c : Ci) (hr : CRoom c) (hz : CSz c) : Ct Tryd.prog Hy 17 [.ag (cE c)] [.i .i64 (checkO c).1, .s (checkO c).2] := by
  have hck := fun (o : Nat → O) => Cm.of_ct (o := o) (rcheck_ct Hy c hr hz)
  have hso := fun (o : Nat → O) => Cm.of_ct (o := o) (rsort_ct Hy c hr hz)
  by_cases h0 : (checkC c).1 = 0
  · have h0' := eq_true h0
    have hs : sortC c = ((sortG c.gts).1, neverG c.gts) := if_pos h0
    rw [hs] at hso
    have hce : checkO c = match neverG c.gts with
      | [] => (0, noneT)
      | x :: _ => (7, x) := if_pos h0
    rw [hce]
    have hnl := nevP_len c.gts c.gts.length
    rw [nevP_all] at hnl
    have hn2 := (cok_of h0).n200
    generalize neverG c.gts = nv at *
    obtain ⟨ins, outs, las, gts⟩ := c
    simp only [cE] at hck hso ⊢
    cases nv with
    | nil =>
      refine ct_of (cls := _root_.id) tt_ok follows_ Tryd.func17 rfl (by decide) (Nat.le_of_ble_eq_true rfl) ?_
      rw [show Tryd.f17.ntmps = 28 from rfl, s0_nf]
      simp only [List.zipIdx_cons, List.zipIdx_nil, List.map_cons, List.map_nil, Nat.reduceAdd, cE]
      repeat' first | refine c_seq ?_ | refine c_reg' rfl fun K E hK hE => ?_ | (refine r_opN fun κ η => ?_; simp only [go_sem, simprocAttr, Nat.le_refl]; refine η _ ?_; clear η κ) | (refine r_nil (hK _ ?_); clear hE hK E K) | refine q_seq ?_
      refine r_callF fun κ η => ?_; simp only [go_sem, simprocAttr, Nat.le_refl]; refine ⟨_, (hck _), ?_⟩; rintro _ _ ⟨rfl, rfl⟩; simp only [go_sem, simprocAttr, Nat.le_refl]; refine η _ ?_; clear η κ
      repeat' first | refine c_seq ?_ | refine c_reg' rfl fun K E hK hE => ?_ | (refine r_opN fun κ η => ?_; simp only [go_sem, simprocAttr, Nat.le_refl, h0']; refine η _ ?_; clear η κ) | (refine r_nil (hK _ ?_); clear hE hK E K) | refine q_seq ?_ | refine c_cond false rfl (fun h => (by cases h)) fun _ => ?_ | refine c_skip ?_
      refine r_callF fun κ η => ?_; simp only [go_sem, simprocAttr, Nat.le_refl]; refine ⟨_, (hso _), ?_⟩; rintro _ _ ⟨rfl, rfl⟩; simp only [go_sem, simprocAttr, Nat.le_refl]; refine η _ ?_; clear η κ
      repeat' first | refine c_seq ?_ | refine c_reg' rfl fun K E hK hE => ?_ | (refine r_opN fun κ η => ?_; simp only [go_sem, simprocAttr, Nat.le_refl, sR, List.map_nil, List.length_nil]; refine η _ ?_; clear η κ) | (refine r_nil (hK _ ?_); clear hE hK E K) | refine q_seq ?_ | refine c_cond false rfl (fun h => (by cases h)) fun _ => ?_ | refine c_skip ?_ | refine c_ret ?_ | (refine q_ret ?_; refine q_r1 ?_; simp only [go_sem, simprocAttr, Nat.le_refl, sR, List.map_nil, List.length_nil])
      rfl
    | cons x l =>
      have hx : (sR (x :: l))[0]? = some [.s x] := rfl
      have hp : ((0 : Int) < (x :: l).length) = True := eq_true (by rw [List.length_cons]; omega)
      generalize hsr : x :: l = nv at *
      refine ct_of (cls := _root_.id) tt_ok follows_ Tryd.func17 rfl (by decide) (Nat.le_of_ble_eq_true rfl) ?_
      rw [show Tryd.f17.ntmps = 28 from rfl, s0_nf]
      simp only [List.zipIdx_cons, List.zipIdx_nil, List.map_cons, List.map_nil, Nat.reduceAdd, cE]
      repeat' first | refine c_seq ?_ | refine c_reg' rfl fun K E hK hE => ?_ | (refine r_opN fun κ η => ?_; simp only [go_sem, simprocAttr, Nat.le_refl]; refine η _ ?_; clear η κ) | (refine r_nil (hK _ ?_); clear hE hK E K) | refine q_seq ?_
      refine r_callF fun κ η => ?_; simp only [go_sem, simprocAttr, Nat.le_refl]; refine ⟨_, (hck _), ?_⟩; rintro _ _ ⟨rfl, rfl⟩; simp only [go_sem, simprocAttr, Nat.le_refl]; refine η _ ?_; clear η κ
      repeat' first | refine c_seq ?_ | refine c_reg' rfl fun K E hK hE => ?_ | (refine r_opN fun κ η => ?_; simp only [go_sem, simprocAttr, Nat.le_refl, h0']; refine η _ ?_; clear η κ) | (refine r_nil (hK _ ?_); clear hE hK E K) | refine q_seq ?_ | refine c_cond false rfl (fun h => (by cases h)) fun _ => ?_ | refine c_skip ?_
      refine r_callF fun κ η => ?_; simp only [go_sem, simprocAttr, Nat.le_refl]; refine ⟨_, (hso _), ?_⟩; rintro _ _ ⟨rfl, rfl⟩; simp only [go_sem, simprocAttr, Nat.le_refl]; refine η _ ?_; clear η κ
      repeat' first | refine c_seq ?_ | refine c_reg' rfl fun K E hK hE => ?_ | refine c_draw' rfl (by kernel_rfl) fun K E hK hE => ?_ | ((first | refine r_opN fun κ η => ?_ | refine d_opN (by kernel_rfl) fun κ η => ?_); simp only [go_sem, simprocAttr, Nat.le_refl, hp, hx]; refine η _ ?_; clear η κ) | (refine r_nil (hK _ ?_); clear hE hK E K) | refine q_seq ?_ | refine c_cond true rfl (fun _ => ?_) (fun h => (by cases h)) | (refine d_nil (hK _ ?_); clear hE hK E K) | refine c_ret ?_ | refine q_seqR ?_ | (refine q_ret ?_; refine q_r1 ?_; simp only [go_sem, simprocAttr, Nat.le_refl, hp, hx])
      rw [← hsr]
  · have h0' := eq_false h0
    have hce : checkO c = checkC c := if_neg h0
    rw [hce]
    obtain ⟨ins, outs, las, gts⟩ := c
    simp only [cE] at hck ⊢
    refine ct_of (cls := _root_.id) tt_ok follows_ Tryd.func17 rfl (by decide) (Nat.le_of_ble_eq_true rfl) ?_
    rw [show Tryd.f17.ntmps = 28 from rfl, s0_nf]
    simp only [List.zipIdx_cons, List.zipIdx_nil, List.map_cons, List.map_nil, Nat.reduceAdd, cE]
    repeat' first | refine c_seq ?_ | refine c_reg' rfl fun K E hK hE => ?_ | (refine r_opN fun κ η => ?_; simp only [go_sem, simprocAttr, Nat.le_refl]; refine η _ ?_; clear η κ) | (refine r_nil (hK _ ?_); clear hE hK E K) | refine q_seq ?_
    refine r_callF fun κ η => ?_; simp only [go_sem, simprocAttr, Nat.le_refl]; refine ⟨_, (hck _), ?_⟩; rintro _ _ ⟨rfl, rfl⟩; simp only [go_sem, simprocAttr, Nat.le_refl]; refine η _ ?_; clear η κ
    repeat' first | refine c_seq ?_ | refine c_reg' rfl fun K E hK hE => ?_ | (refine r_opN fun κ η => ?_; simp only [go_sem, simprocAttr, Nat.le_refl, h0']; refine η _ ?_; clear η κ) | (refine r_nil (hK _ ?_); clear hE hK E K) | refine q_seq ?_ | refine c_cond true rfl (fun _ => ?_) (fun h => (by cases h)) | refine c_ret ?_ | refine q_seqR ?_ | (refine q_ret ?_; refine q_r1 ?_; simp only [go_sem, simprocAttr, Nat.le_refl, h0'])
end Go.Proofs.YtbhoeanfnbkenaaDoor
namespace Go.Proofs.YtbhoeanfnbkenaaDoor
open Go.RowKit Go.WideMaps
set_option maxRecDepth 100000
set_option linter.unusedSimpArgs false
variable (Hy : World → Prop)
attribute [local irreducible] runM runD cwp seqQ blkQ lpQ retQ asQ bdQ bdY retP endR preD retD
theorem lvL_snoc (n : Nat) : iR (lvL (n + 1) fun _ => -1) = iR (lvL n fun _ => -1) ++ [[.i .i64 (-1)]] := by
  unfold lvL iR
  rw [List.range_succ, List.map_append, List.map_append]
  rfl
set_option maxHeartbeats 8000000 in
theorem rlevels_ct (c : Ci) (hr : CRoom c) (hz : CSz c) : Ct Tryd.prog Hy 20 [.ag (cE c)] [.sl (iR (levelsR c))] := by
  have hri := fun (o : Nat → O) => Cm.of_ct (o := o) (rright_ct Hy c hr hz)
  have hso := fun (o : Nat → O) => Cm.of_ct (o := o) (rsort_ct Hy c hr hz)
  by_cases h0 : (checkC c).1 = 0
  · have hco := cok_of h0
    have hs : sortC c = ((sortG c.gts).1, neverG c.gts) := if_pos h0
    obtain ⟨_, hn, hi8, hsz, h5, hu⟩ := hco
    obtain ⟨hsl, hsk⟩ := sortF_lt c.gts c.gts.length none_
    rw [levelsR, if_pos h0, lvG_eq hu]
    rw [decide_eq_true h0] at hri
    rw [hs] at hso
    obtain ⟨ins, outs, las, gts⟩ := c
    simp only at hn hi8 hsz h5 hu hsl hsk hso
    have hsl : (sortG gts).1.length ≤ gts.length := hsl
    have hsk : ∀ x ∈ (sortG gts).1, x < gts.length := hsk
    simp only [cE] at hri hso ⊢
    generalize (sortG gts).1 = so at *
    generalize neverG gts = nv at *
    refine ct_of (cls := _root_.id) tt_ok follows_ Tryd.func20 rfl (by decide) (Nat.le_of_ble_eq_true rfl) ?_
    rw [show Tryd.f20.ntmps = 72 from rfl, s0_nf]
    simp only [List.zipIdx_cons, List.zipIdx_nil, List.map_cons, List.map_nil, Nat.reduceAdd, cE]
    repeat' first | refine c_seq ?_ | refine c_reg' rfl fun K E hK hE => ?_ | (refine r_opN fun κ η => ?_; simp only [go_sem, simprocAttr, Nat.le_refl]; refine η _ ?_; clear η κ) | (refine r_nil (hK _ ?_); clear hE hK E K) | refine q_seq ?_
    refine r_callF fun κ η => ?_; simp only [go_sem, simprocAttr, Nat.le_refl]; refine ⟨_, (hri _), ?_⟩; rintro _ _ ⟨rfl, rfl⟩; simp only [go_sem, simprocAttr, Nat.le_refl]; refine η _ ?_; clear η κ
    repeat' first | refine c_seq ?_ | refine c_block ?_ | refine c_reg' rfl fun K E hK hE => ?_ | (refine r_opN fun κ η => ?_; simp only [go_sem, simprocAttr, Nat.le_refl]; refine η _ ?_; clear η κ) | (refine r_nil (hK _ ?_); clear hE hK E K) | refine q_seq ?_ | refine c_cond false rfl (fun h => (by cases h)) fun _ => ?_ | refine c_skip ?_
    refine c_loop (fun m s' => ∃ k : Nat, m = gts.length - k ∧ k ≤ gts.length ∧ ∃ F G0 yy, s' = nf 72 F G0 [(1, .ptr 1 1 0), (3, yy), (4, .t (.i .i64 k))] [] ∧ G0 1 = ⟨1, .cells 26 [.t (.sl (sR ins)), .t (.sl (sR outs)), .t (.sl (lsR las)), .t (.sl (gsR gts))]⟩ ∧ Acc G0 22 3 1 (iR (lvL k fun _ => -1)) yy) gts.length ?_ ?_
    · exact ⟨0, by omega, by omega, _, _, _, nf_of rfl ⟨rfl, rfl, rfl, trivial⟩ trivial, rfl, .inl ⟨rfl, rfl⟩⟩
    rintro m s' ⟨k, rfl, hk, F, G0, yy, rfl, b1, hy⟩
    by_cases hd : k < gts.length
    · have hd' : ((k : Int) < gts.length) = True := eq_true (by omega)
      have hs2 := lvL_snoc k
      have hlen : (iR (lvL k fun _ => -1)).length ≤ 1000000 := by
        rw [iR_len, lvL_len]
        omega
      rcases hy with ⟨y0, rfl⟩ | ⟨q', rfl, hr2⟩
      · rw [y0] at hs2
        repeat' first | refine c_seq ?_ | refine c_block ?_ | refine c_reg' rfl fun K E hK hE => ?_ | (refine r_opN fun κ η => ?_; simp only [go_sem, simprocAttr, Nat.le_refl, b1, hd']; (repeat refine ⟨by omega, ?_⟩); refine η _ ?_; clear η κ) | (refine r_nil (hK _ ?_); clear hE hK E K) | refine q_seq ?_ | refine c_cond true rfl (fun _ => ?_) (fun h => (by cases h)) | refine q_blk ?_ | refine c_skip ?_ | refine q_lpN ?_
        exact ⟨gts.length - (k + 1), by omega, k + 1, rfl, by omega, _, _, _, nf_of rfl ⟨rfl, rfl, rfl, trivial⟩ trivial, b1, .inr ⟨_, rfl, by rw [hs2]; rfl⟩⟩
      · generalize iR (lvL k fun _ => -1) = rw0 at hr2 hs2 hlen
        repeat' first | refine c_seq ?_ | refine c_block ?_ | refine c_reg' rfl fun K E hK hE => ?_ | (refine r_opN fun κ η => ?_; simp only [go_sem, simprocAttr, Nat.le_refl, b1, hd', hr2]; (repeat refine ⟨by omega, ?_⟩); refine η _ ?_; clear η κ) | (refine r_nil (hK _ ?_); clear hE hK E K) | refine q_seq ?_ | refine c_cond true rfl (fun _ => ?_) (fun h => (by cases h)) | refine q_blk ?_ | refine c_skip ?_ | refine q_lpN ?_
        exact ⟨gts.length - (k + 1), by omega, k + 1, rfl, by omega, _, _, _, nf_of rfl ⟨rfl, rfl, rfl, trivial⟩ trivial, b1, .inr ⟨_, rfl, by rw [hs2]; rfl⟩⟩
    have hd' : ((k : Int) < gts.length) = False := eq_false (by omega)
    obtain ⟨k, hke, rfl⟩ : ∃ n', n' = gts.length ∧ n' = k := ⟨_, rfl, by omega⟩
    subst hke
    rcases hy with ⟨y0, rfl⟩ | ⟨q, rfl, hrow⟩
    · have hg0 : gts.length = 0 := by
        have := congrArg List.length y0
        rwa [iR_len, lvL_len] at this
      obtain rfl : so = [] := List.eq_nil_of_length_eq_zero (by omega)
      repeat' first | refine c_seq ?_ | refine c_reg' rfl fun K E hK hE => ?_ | (refine r_opN fun κ η => ?_; simp only [go_sem, simprocAttr, Nat.le_refl, b1, hd']; (repeat refine ⟨by omega, ?_⟩); refine η _ ?_; clear η κ) | (refine r_nil (hK _ ?_); clear hE hK E K) | refine q_seq ?_ | refine c_cond false rfl (fun h => (by cases h)) fun _ => ?_ | refine c_exit ?_ | refine q_seqE ?_ | refine q_blkHit ?_ | refine q_lpE ?_
      refine r_callF fun κ η => ?_; simp only [go_sem, simprocAttr, Nat.le_refl]; refine ⟨_, (hso _), ?_⟩; rintro _ _ ⟨rfl, rfl⟩; simp only [go_sem, simprocAttr, Nat.le_refl]; refine η _ ?_; clear η κ
      repeat' first | refine c_seq ?_ | refine c_block ?_ | refine c_reg' rfl fun K E hK hE => ?_ | (refine r_opN fun κ η => ?_; simp only [go_sem, simprocAttr, Nat.le_refl]; refine η _ ?_; clear η κ) | (refine r_nil (hK _ ?_); clear hE hK E K) | refine q_seq ?_
      refine c_loop (fun m s' => m = 0 ∧ ∃ F G0, s' = nf 72 F G0 [(3, .nilS), (5, .t (.sl [])), (7, .t (.i .i64 0))] []) 0 ?_ ?_
      · exact ⟨rfl, _, _, nf_of rfl ⟨rfl, rfl, rfl, trivial⟩ trivial⟩
      rintro m s' ⟨rfl, F, G0, rfl⟩
      repeat' first | refine c_seq ?_ | refine c_reg' rfl fun K E hK hE => ?_ | (refine r_opN fun κ η => ?_; simp only [go_sem, simprocAttr, Nat.le_refl, List.length_nil]; refine η _ ?_; clear η κ) | (refine r_nil (hK _ ?_); clear hE hK E K) | refine q_seq ?_ | refine c_cond false rfl (fun h => (by cases h)) fun _ => ?_ | refine c_exit ?_ | refine c_ret ?_ | refine q_seqE ?_ | refine q_blkHit ?_ | refine q_lpE ?_ | (refine q_ret ?_; refine q_r1 ?_; simp only [go_sem, simprocAttr, Nat.le_refl, List.length_nil])
      exact congrArg (fun z => [T.sl z]) y0.symm
    repeat' first | refine c_seq ?_ | refine c_reg' rfl fun K E hK hE => ?_ | (refine r_opN fun κ η => ?_; simp only [go_sem, simprocAttr, Nat.le_refl, b1, hd']; (repeat refine ⟨by omega, ?_⟩); refine η _ ?_; clear η κ) | (refine r_nil (hK _ ?_); clear hE hK E K) | refine q_seq ?_ | refine c_cond false rfl (fun h => (by cases h)) fun _ => ?_ | refine c_exit ?_ | refine q_seqE ?_ | refine q_blkHit ?_ | refine q_lpE ?_
    refine r_callF fun κ η => ?_; simp only [go_sem, simprocAttr, Nat.le_refl]; refine ⟨_, (hso _), ?_⟩; rintro _ _ ⟨rfl, rfl⟩; simp only [go_sem, simprocAttr, Nat.le_refl]; refine η _ ?_; clear η κ
    repeat' first | refine c_seq ?_ | refine c_block ?_ | refine c_reg' rfl fun K E hK hE => ?_ | (refine r_opN fun κ η => ?_; simp only [go_sem, simprocAttr, Nat.le_refl]; refine η _ ?_; clear η κ) | (refine r_nil (hK _ ?_); clear hE hK E K) | refine q_seq ?_
    refine c_loop (fun m s' => ∃ k : Nat, m = so.length - k ∧ k ≤ so.length ∧ ∃ F G0 lv, s' = nf 72 F G0 [(1, .ptr 1 1 0), (3, .row 22 q), (5, .t (.sl (iR (castL so)))), (7, .t (.i .i64 k))] [] ∧ G0 1 = ⟨1, .cells 26 [.t (.sl (sR ins)), .t (.sl (sR outs)), .t (.sl (lsR las)), .t (.sl (gsR gts))]⟩ ∧ G0 22 = ⟨q, .row 3 1 (iR (lvL gts.length lv))⟩ ∧ lv = (so.take k).foldl (rlvI gts) (fun _ => -1) ∧ LvB k lv) so.length ?_ ?_
    · exact ⟨0, by omega, by omega, _, _, _, nf_of rfl ⟨rfl, rfl, rfl, rfl, trivial⟩ trivial, b1, hrow, rfl, fun j => ⟨Int.le_refl _, (by show (-1 : Int) ≤ ((0 : Nat) : Int); omega)⟩⟩
    clear b1 hrow hd hd'
    rintro m s' ⟨k, rfl, hk, F, G0, lv, rfl, b1, hrow, hlv, hB⟩
    by_cases hd : k < so.length
    · have hd' : ((k : Int) < so.length) = True := eq_true (by omega)
      obtain ⟨i, hi⟩ : ∃ i, so[k]? = some i := ⟨_, List.getElem?_eq_getElem hd⟩
      have hi' := castL_get hi
      have hin := hsk i (List.mem_of_getElem? hi)
      have hgi := gsR_get (gat_some hin)
      have hil := hi8 _ (gat_mem hin)
      have hnx : (so.take (k + 1)).foldl (rlvI gts) (fun _ => -1) = rlvI gts lv i := by rw [foldl_take _ _ hi, ← hlv]
      have hBn := hB.next (gs := gts) (by omega) i
      repeat' first | refine c_seq ?_ | refine c_block ?_ | refine c_reg' rfl fun K E hK hE => ?_ | (refine r_opN fun κ η => ?_; simp only [go_sem, simprocAttr, Nat.le_refl, b1, hd']; refine η _ ?_; clear η κ) | (refine r_nil (hK _ ?_); clear hE hK E K) | refine q_seq ?_ | refine c_cond true rfl (fun _ => ?_) (fun h => (by cases h)) | refine c_skip ?_
      refine c_loop (fun m s' => ∃ j : Nat, m = gts.length - j ∧ j ≤ gts.length ∧ ∃ F G0, s' = nf 72 F G0 [(1, .ptr 1 1 0), (3, .row 22 q), (5, .t (.sl (iR (castL so)))), (7, .t (.i .i64 k)), (8, .t (.i .i64 (nG gts lv i j))), (9, .t (.i .i64 j))] [] ∧ G0 1 = ⟨1, .cells 26 [.t (.sl (sR ins)), .t (.sl (sR outs)), .t (.sl (lsR las)), .t (.sl (gsR gts))]⟩ ∧ G0 22 = ⟨q, .row 3 1 (iR (lvL gts.length lv))⟩) gts.length ?_ ?_
      · exact ⟨0, by omega, by omega, _, _, nf_of rfl ⟨rfl, rfl, rfl, rfl, rfl, rfl, trivial⟩ trivial, b1, hrow⟩
      clear b1 hrow
      rintro m s' ⟨j, rfl, hj, F, G0, rfl, b1, hrow⟩
      by_cases he : j < gts.length
      · have he' : ((j : Int) < gts.length) = True := eq_true (by omega)
        have hgj := gsR_get (gat_some he)
        have hlj := lvL_get (lv := lv) he
        have hh := rHas_ct Hy (gat gts i).ins (gat gts j).name (by omega)
        have hsu := nG_succ gts lv i j
        have hbj := hB j
        have hn1 := hBn j
        have hn2 := hBn (j + 1)
        rw [used_dec] at hh
        cases hub : usedB (gat gts i).ins (gat gts j).name with
        | true =>
          rw [hub] at hh hsu
          rw [if_pos rfl] at hsu
          have hmax : (if nG gts lv i j < lv j + 1 then lv j + 1 else nG gts lv i j) = nG gts lv i (j + 1) := by
            rw [hsu, Int.max_def]
            split <;> split <;> omega
          repeat' first | refine c_seq ?_ | refine c_block ?_ | refine c_reg' rfl fun K E hK hE => ?_ | refine c_draw' rfl (by kernel_rfl) fun K E hK hE => ?_ | ((first | refine r_opN fun κ η => ?_ | refine d_opN (by kernel_rfl) fun κ η => ?_); simp only [go_sem, simprocAttr, Nat.le_refl, b1, he', hi', hgi, hgj]; (repeat refine ⟨by omega, ?_⟩); refine η _ ?_; clear η κ) | (refine r_nil (hK _ ?_); clear hE hK E K) | refine q_seq ?_ | refine c_cond true rfl (fun _ => ?_) (fun h => (by cases h)) | refine c_skip ?_
          refine d_opN (by kernel_rfl) fun κ η => ?_; simp only [go_sem, simprocAttr, Nat.le_refl]; refine ⟨_, hh, ?_⟩; simp only [go_sem, simprocAttr, Nat.le_refl]; refine η _ ?_; clear η κ
          repeat' first | refine c_reg' rfl fun K E hK hE => ?_ | (refine r_opN fun κ η => ?_; simp only [go_sem, simprocAttr, Nat.le_refl, hrow, hlj, hmax]; (repeat refine ⟨by omega, ?_⟩); refine η _ ?_; clear η κ) | (refine r_nil (hK _ ?_); clear hE hK E K) | refine q_seq ?_ | refine c_cond true rfl (fun _ => ?_) (fun h => (by cases h)) | (refine d_nil (hK _ ?_); clear hE hK E K) | refine q_blk ?_ | refine q_lpN ?_
          exact ⟨gts.length - (j + 1), by omega, j + 1, rfl, by omega, _, _, nf_of rfl ⟨rfl, rfl, rfl, rfl, rfl, rfl, trivial⟩ trivial, b1, hrow⟩
        | false =>
          rw [hub] at hh hsu
          rw [if_neg (by decide)] at hsu
          repeat' first | refine c_seq ?_ | refine c_block ?_ | refine c_reg' rfl fun K E hK hE => ?_ | refine c_draw' rfl (by kernel_rfl) fun K E hK hE => ?_ | ((first | refine r_opN fun κ η => ?_ | refine d_opN (by kernel_rfl) fun κ η => ?_); simp only [go_sem, simprocAttr, Nat.le_refl, b1, he', hi', hgi, hgj]; (repeat refine ⟨by omega, ?_⟩); refine η _ ?_; clear η κ) | (refine r_nil (hK _ ?_); clear hE hK E K) | refine q_seq ?_ | refine c_cond true rfl (fun _ => ?_) (fun h => (by cases h)) | refine c_skip ?_
          refine d_opN (by kernel_rfl) fun κ η => ?_; simp only [go_sem, simprocAttr, Nat.le_refl]; refine ⟨_, hh, ?_⟩; simp only [go_sem, simprocAttr, Nat.le_refl]; refine η _ ?_; clear η κ
          repeat' first | refine c_reg' rfl fun K E hK hE => ?_ | (refine r_opN fun κ η => ?_; simp only [go_sem, simprocAttr, Nat.le_refl]; (repeat refine ⟨by omega, ?_⟩); refine η _ ?_; clear η κ) | (refine r_nil (hK _ ?_); clear hE hK E K) | refine q_seq ?_ | refine c_cond false rfl (fun h => (by cases h)) fun _ => ?_ | (refine d_nil (hK _ ?_); clear hE hK E K) | refine q_blk ?_ | refine c_skip ?_ | refine q_lpN ?_
          exact ⟨gts.length - (j + 1), by omega, j + 1, rfl, by omega, _, _, nf_of rfl ⟨rfl, rfl, rfl, rfl, by rw [hsu]; rfl, rfl, trivial⟩ trivial, b1, hrow⟩
      · have he' : ((j : Int) < gts.length) = False := eq_false (by omega)
        obtain ⟨j, hje, rfl⟩ : ∃ n', n' = gts.length ∧ n' = j := ⟨_, rfl, by omega⟩
        have hset := lvL_set2 gts.length lv i (nG gts lv i j)
        have hli := lvL_get (lv := lv) hin
        have hn1 := hBn j
        repeat' first | refine c_seq ?_ | refine c_reg' rfl fun K E hK hE => ?_ | (refine r_opN fun κ η => ?_; simp only [go_sem, simprocAttr, Nat.le_refl, b1, he', hi', hrow, hli, hset]; (repeat refine ⟨by omega, ?_⟩); refine η _ ?_; clear η κ) | (refine r_nil (hK _ ?_); clear hE hK E K) | refine q_seq ?_ | refine c_cond false rfl (fun h => (by cases h)) fun _ => ?_ | refine q_blk ?_ | refine c_exit ?_ | refine q_seqE ?_ | refine q_blkHit ?_ | refine q_lpE ?_ | refine q_lpN ?_
        refine ⟨so.length - (k + 1), by omega, k + 1, rfl, by omega, _, _, _, nf_of rfl ⟨rfl, rfl, rfl, rfl, trivial⟩ trivial, b1, rfl, ?_, ?_⟩
        · rw [hnx]
          unfold rlvI
          rw [hje]
        · exact hB.upd i (by omega) (by omega) (by omega)
    · have hd' : ((k : Int) < so.length) = False := eq_false (by omega)
      rw [List.take_of_length_le (by omega)] at hlv
      subst hlv
      repeat' first | refine c_seq ?_ | refine c_reg' rfl fun K E hK hE => ?_ | (refine r_opN fun κ η => ?_; simp only [go_sem, simprocAttr, Nat.le_refl, hd', hrow]; refine η _ ?_; clear η κ) | (refine r_nil (hK _ ?_); clear hE hK E K) | refine q_seq ?_ | refine c_cond false rfl (fun h => (by cases h)) fun _ => ?_ | refine c_exit ?_ | refine c_ret ?_ | refine q_seqE ?_ | refine q_blkHit ?_ | refine q_lpE ?_ | (refine q_ret ?_; refine q_r1 ?_; simp only [go_sem, simprocAttr, Nat.le_refl, hd', hrow])
  · rw [levelsR, if_neg h0]
    rw [decide_eq_false h0] at hri
    obtain ⟨ins, outs, las, gts⟩ := c
    simp only [cE] at hri ⊢
    refine ct_of (cls := _root_.id) tt_ok follows_ Tryd.func20 rfl (by decide) (Nat.le_of_ble_eq_true rfl) ?_
    rw [show Tryd.f20.ntmps = 72 from rfl, s0_nf]
    simp only [List.zipIdx_cons, List.zipIdx_nil, List.map_cons, List.map_nil, Nat.reduceAdd, cE]
    repeat' first | refine c_seq ?_ | refine c_reg' rfl fun K E hK hE => ?_ | (refine r_opN fun κ η => ?_; simp only [go_sem, simprocAttr, Nat.le_refl]; refine η _ ?_; clear η κ) | (refine r_nil (hK _ ?_); clear hE hK E K) | refine q_seq ?_
    refine r_callF fun κ η => ?_; simp only [go_sem, simprocAttr, Nat.le_refl]; refine ⟨_, (hri _), ?_⟩; rintro _ _ ⟨rfl, rfl⟩; simp only [go_sem, simprocAttr, Nat.le_refl]; refine η _ ?_; clear η κ
    repeat' first | refine c_seq ?_ | refine c_reg' rfl fun K E hK hE => ?_ | (refine r_opN fun κ η => ?_; simp only [go_sem, simprocAttr, Nat.le_refl]; refine η _ ?_; clear η κ) | (refine r_nil (hK _ ?_); clear hE hK E K) | refine q_seq ?_ | refine c_cond true rfl (fun _ => ?_) (fun h => (by cases h)) | refine c_ret ?_ | refine q_seqR ?_ | (refine q_ret ?_; refine q_r1 ?_; simp only [go_sem, simprocAttr, Nat.le_refl])
    rfl
end Go.Proofs.YtbhoeanfnbkenaaDoor
