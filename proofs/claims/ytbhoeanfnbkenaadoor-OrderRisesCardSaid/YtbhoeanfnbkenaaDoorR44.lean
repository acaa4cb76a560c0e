import Derived.Test.YtbhoeanfnbkenaaDoorR39
import Derived.Test.YtbhoeanfnbkenaaDoorR40p
import Derived.Test.YtbhoeanfnbkenaaDoorR35
namespace Go.Proofs.YtbhoeanfnbkenaaDoor
open Go.RowKit
set_option maxRecDepth 100000
set_option linter.unusedSimpArgs false
variable (Hy : World → Prop)
attribute [local irreducible] runM runD cwp seqQ blkQ lpQ retQ asQ bdQ bdY retP endR preD retD
theorem gat_get2 {gs : List Gt} {k : Nat} (h : k < gs.length) : (gsR gs)[k]? = some [.s (gat gs k).name, .i .i64 (gat gs k).op, .sl (sR (gat gs k).ins), .sl (rR (gat gs k).rows), .b (gat gs k).off] := gsR_get (gat_get h)
set_option maxHeartbeats 16000000 in
theorem orderRises_ct (c : Ci) (hr : CRoom c) (hgo : GOk c.gts) (hlo : LOk c.las) : Ct Tryd.prog Hy 6 [.ag (cE c)] [.b true] := by
  have hw := works07_ct Hy
  have hfe := few_ct Hy c
  have hck := ocheck_ct Hy c hr hgo hlo
  cases hl : fewC c with
  | false =>
    rw [hl] at hfe
    obtain ⟨ins, outs, las, gts⟩ := c
    simp only [cE] at hfe hck ⊢
    refine ct_of (cls := _root_.id) tt_ok follows_ Tryd.func6 rfl (by decide) (Nat.le_of_ble_eq_true rfl) ?_
    rw [show Tryd.f6.ntmps = 94 from rfl, s0_nf]
    simp only [List.zipIdx_cons, List.zipIdx_nil, List.map_cons, List.map_nil, Nat.reduceAdd]
    repeat' first | refine c_seq ?_ | refine c_reg' rfl fun K E hK hE => ?_ | (refine r_opN fun κ η => ?_; simp only [go_sem, simprocAttr, Nat.le_refl]; refine η _ ?_; clear η κ) | (refine r_nil (hK _ ?_); clear hE hK E K) | refine q_seq ?_
    refine r_opN fun κ η => ?_; simp only [go_sem, simprocAttr, Nat.le_refl]; refine ⟨_, hw, ?_⟩; simp only [go_sem, simprocAttr, Nat.le_refl]; refine η _ ?_; clear η κ
    repeat' first | refine c_seq ?_ | refine c_reg' rfl fun K E hK hE => ?_ | (refine r_opN fun κ η => ?_; simp only [go_sem, simprocAttr, Nat.le_refl]; refine η _ ?_; clear η κ) | (refine r_nil (hK _ ?_); clear hE hK E K) | refine q_seq ?_ | refine c_cond false rfl (fun h => (by cases h)) fun _ => ?_ | refine c_skip ?_
    refine r_opN fun κ η => ?_; simp only [go_sem, simprocAttr, Nat.le_refl]; refine ⟨_, hfe, ?_⟩; simp only [go_sem, simprocAttr, Nat.le_refl]; refine η _ ?_; clear η κ
    repeat' first | refine c_seq ?_ | refine c_reg' rfl fun K E hK hE => ?_ | (refine r_opN fun κ η => ?_; simp only [go_sem, simprocAttr, Nat.le_refl]; refine η _ ?_; clear η κ) | (refine r_nil (hK _ ?_); clear hE hK E K) | refine q_seq ?_
    refine r_opN fun κ η => ?_; simp only [go_sem, simprocAttr, Nat.le_refl]; refine ⟨_, hck, ?_⟩; simp only [go_sem, simprocAttr, Nat.le_refl]; refine η _ ?_; clear η κ
    repeat' first | refine c_seq ?_ | refine c_reg' rfl fun K E hK hE => ?_ | ((first | refine r_opN fun κ η => ?_ | refine r_opG rfl fun κ η => ?_); simp only [go_sem, simprocAttr, Nat.le_refl]; refine η _ ?_; clear η κ) | (refine r_nil (hK _ ?_); clear hE hK E K) | refine q_seq ?_ | refine c_cond true rfl (fun _ => ?_) (fun h => (by cases h)) | refine c_ret ?_ | refine q_seqR ?_ | (refine q_ret ?_; refine q_r1 ?_; simp only [go_sem, simprocAttr, Nat.le_refl])
  | true =>
    rw [hl] at hfe
    by_cases h0 : (checkO c).1 = 0
    rotate_left
    · have h0' := eq_false h0
      obtain ⟨ins, outs, las, gts⟩ := c
      simp only [cE] at hfe hck ⊢
      refine ct_of (cls := _root_.id) tt_ok follows_ Tryd.func6 rfl (by decide) (Nat.le_of_ble_eq_true rfl) ?_
      rw [show Tryd.f6.ntmps = 94 from rfl, s0_nf]
      simp only [List.zipIdx_cons, List.zipIdx_nil, List.map_cons, List.map_nil, Nat.reduceAdd]
      repeat' first | refine c_seq ?_ | refine c_reg' rfl fun K E hK hE => ?_ | (refine r_opN fun κ η => ?_; simp only [go_sem, simprocAttr, Nat.le_refl]; refine η _ ?_; clear η κ) | (refine r_nil (hK _ ?_); clear hE hK E K) | refine q_seq ?_
      refine r_opN fun κ η => ?_; simp only [go_sem, simprocAttr, Nat.le_refl]; refine ⟨_, hw, ?_⟩; simp only [go_sem, simprocAttr, Nat.le_refl]; refine η _ ?_; clear η κ
      repeat' first | refine c_seq ?_ | refine c_reg' rfl fun K E hK hE => ?_ | (refine r_opN fun κ η => ?_; simp only [go_sem, simprocAttr, Nat.le_refl]; refine η _ ?_; clear η κ) | (refine r_nil (hK _ ?_); clear hE hK E K) | refine q_seq ?_ | refine c_cond false rfl (fun h => (by cases h)) fun _ => ?_ | refine c_skip ?_
      refine r_opN fun κ η => ?_; simp only [go_sem, simprocAttr, Nat.le_refl]; refine ⟨_, hfe, ?_⟩; simp only [go_sem, simprocAttr, Nat.le_refl]; refine η _ ?_; clear η κ
      repeat' first | refine c_seq ?_ | refine c_reg' rfl fun K E hK hE => ?_ | (refine r_opN fun κ η => ?_; simp only [go_sem, simprocAttr, Nat.le_refl]; refine η _ ?_; clear η κ) | (refine r_nil (hK _ ?_); clear hE hK E K) | refine q_seq ?_
      refine r_opN fun κ η => ?_; simp only [go_sem, simprocAttr, Nat.le_refl]; refine ⟨_, hck, ?_⟩; simp only [go_sem, simprocAttr, Nat.le_refl]; refine η _ ?_; clear η κ
      repeat' first | refine c_seq ?_ | refine c_reg' rfl fun K E hK hE => ?_ | ((first | refine r_opN fun κ η => ?_ | refine r_opG rfl fun κ η => ?_); simp only [go_sem, simprocAttr, Nat.le_refl, h0']; refine η _ ?_; clear η κ) | (refine r_nil (hK _ ?_); clear hE hK E K) | refine q_seq ?_ | refine c_cond true rfl (fun _ => ?_) (fun h => (by cases h)) | refine c_ret ?_ | refine q_seqR ?_ | (refine q_ret ?_; refine q_r1 ?_; simp only [go_sem, simprocAttr, Nat.le_refl, h0'])
    have h0' := eq_true h0
    have hf := few_get hl
    obtain ⟨hmay, hz⟩ := (checkO_iff c).1 h0
    obtain ⟨m1, m2, m3⟩ := rises_may hmay hz
    obtain ⟨n1, n2⟩ := never_nil hz
    have hlt := (sortG_ok c.gts).lt
    have hst := sort_ct Hy c hr hgo hlo
    rw [show sortC c = ((sortG c.gts).1, neverG c.gts) from if_pos ((chk_iff c).2 hmay)] at hst
    have hsl := sorted_len c.gts
    have hgs : GOk (sorted c.gts) := fun g hg => hgo g ((sorted_perm hz).mem_iff.1 hg)
    have hrd : CRoom ⟨c.ins, c.outs, c.las, sorted c.gts⟩ := ⟨hr.ins, hr.outs, hr.las, by have := hr.gts; simp only; omega⟩
    have hs2 := fun (o : Nat → O) => Cm.of_ct (o := o) (sort_ct Hy ⟨c.ins, c.outs, c.las, sorted c.gts⟩ hrd hgs hlo)
    have hk2 := fun (o : Nat → O) => Cm.of_ct (o := o) (ocheck_ct Hy ⟨c.ins, c.outs, c.las, sorted c.gts⟩ hrd hgs hlo)
    rw [show sortC ⟨c.ins, c.outs, c.las, sorted c.gts⟩ = (List.range c.gts.length, []) from (if_pos ((chk_iff _).2 m1)).trans (by simp only [m2, m3])] at hs2
    have hko : (checkO ⟨c.ins, c.outs, c.las, sorted c.gts⟩).1 = 0 := (checkO_iff _).2 ⟨m1, m2⟩
    rw [hko] at hk2
    have htk : ∀ i k, (sortG c.gts).1[i]? = some k → gsR ((sorted c.gts).take (i + 1)) = gsR ((sorted c.gts).take i) ++ [[.s (gat c.gts k).name, .i .i64 (gat c.gts k).op, .sl (sR (gat c.gts k).ins), .sl (rR (gat c.gts k).rows), .b (gat c.gts k).off]] := fun i k hk => by
      have : (sorted c.gts)[i]? = some (gat c.gts k) := by unfold sorted; rw [List.getElem?_map, hk]; rfl
      rw [List.take_add_one, this, gsR_app]
      rfl
    have q3 := hf.gts
    have hrg : ∀ i, i < c.gts.length → (iR (castL (List.range c.gts.length)))[i]? = some [.i .i64 (i : Nat)] := fun i hi => castL_get (by rw [List.getElem?_range hi])
    have hrl : (castL (List.range c.gts.length)).length = c.gts.length := by rw [castL_len, List.length_range]
    clear m1 m2 m3 hmay hz hf hl n2 hko
    generalize (checkO ⟨c.ins, c.outs, c.las, sorted c.gts⟩).2 = K2 at *
    generalize neverG c.gts = NV at *
    generalize sorted c.gts = ds at *
    generalize castL (List.range c.gts.length) = RG at *
    generalize (sortG c.gts).1 = L at *
    obtain ⟨ins, outs, las, gts⟩ := c
    simp only [cE] at hfe hck hst hs2 hk2 q3 hlt htk hsl n1 hrg hrl ⊢
    have hLc : (castL L).length = L.length := castL_len L
    refine ct_of (cls := _root_.id) tt_ok follows_ Tryd.func6 rfl (by decide) (Nat.le_of_ble_eq_true rfl) ?_
    rw [show Tryd.f6.ntmps = 94 from rfl, s0_nf]
    simp only [List.zipIdx_cons, List.zipIdx_nil, List.map_cons, List.map_nil, Nat.reduceAdd]
    repeat' first | refine c_seq ?_ | refine c_reg' rfl fun K E hK hE => ?_ | (refine r_opN fun κ η => ?_; simp only [go_sem, simprocAttr, Nat.le_refl]; refine η _ ?_; clear η κ) | (refine r_nil (hK _ ?_); clear hE hK E K) | refine q_seq ?_
    refine r_opN fun κ η => ?_; simp only [go_sem, simprocAttr, Nat.le_refl]; refine ⟨_, hw, ?_⟩; simp only [go_sem, simprocAttr, Nat.le_refl]; refine η _ ?_; clear η κ
    repeat' first | refine c_seq ?_ | refine c_reg' rfl fun K E hK hE => ?_ | (refine r_opN fun κ η => ?_; simp only [go_sem, simprocAttr, Nat.le_refl]; refine η _ ?_; clear η κ) | (refine r_nil (hK _ ?_); clear hE hK E K) | refine q_seq ?_ | refine c_cond false rfl (fun h => (by cases h)) fun _ => ?_ | refine c_skip ?_
    refine r_opN fun κ η => ?_; simp only [go_sem, simprocAttr, Nat.le_refl]; refine ⟨_, hfe, ?_⟩; simp only [go_sem, simprocAttr, Nat.le_refl]; refine η _ ?_; clear η κ
    repeat' first | refine c_seq ?_ | refine c_reg' rfl fun K E hK hE => ?_ | (refine r_opN fun κ η => ?_; simp only [go_sem, simprocAttr, Nat.le_refl]; refine η _ ?_; clear η κ) | (refine r_nil (hK _ ?_); clear hE hK E K) | refine q_seq ?_
    refine r_opN fun κ η => ?_; simp only [go_sem, simprocAttr, Nat.le_refl]; refine ⟨_, hck, ?_⟩; simp only [go_sem, simprocAttr, Nat.le_refl]; refine η _ ?_; clear η κ
    repeat' first | refine c_seq ?_ | refine c_reg' rfl fun K E hK hE => ?_ | ((first | refine r_opN fun κ η => ?_ | refine r_opG rfl fun κ η => ?_); simp only [go_sem, simprocAttr, Nat.le_refl, h0']; refine η _ ?_; clear η κ) | (refine r_nil (hK _ ?_); clear hE hK E K) | refine q_seq ?_ | refine c_cond false rfl (fun h => (by cases h)) fun _ => ?_ | refine c_skip ?_
    refine r_opN fun κ η => ?_; simp only [go_sem, simprocAttr, Nat.le_refl]; refine ⟨_, hst, ?_⟩; simp only [go_sem, simprocAttr, Nat.le_refl]; refine η _ ?_; clear η κ
    repeat' first | refine c_seq ?_ | refine c_block ?_ | refine c_reg' rfl fun K E hK hE => ?_ | (refine r_opN fun κ η => ?_; simp only [go_sem, simprocAttr, Nat.le_refl]; (repeat refine ⟨by omega, ?_⟩); refine η _ ?_; clear η κ) | (refine r_nil (hK _ ?_); clear hE hK E K) | refine q_seq ?_
    refine c_loop (fun m s' => ∃ i : Nat, m = L.length - i ∧ i ≤ L.length ∧ ∃ F G0 yy, s' = nf 94 F G0 [(1, .ptr 1 1 0), (3, .t (.b true)), (7, .t (.sl (iR (castL L)))), (9, .ptr 9 1 0), (10, .t (.i .i64 i))] [] ∧ G0 1 = ⟨1, .cells 26 [.t (.sl (sR ins)), .t (.sl (sR outs)), .t (.sl (lsR las)), .t (.sl (gsR gts))]⟩ ∧ G0 9 = ⟨1, .cells 26 [.t (.sl (sR ins)), .t (.sl (sR outs)), .t (.sl (lsR las)), yy]⟩ ∧ Acc G0 57 45 5 (gsR (ds.take i)) yy) L.length ?_ ?_
    · exact ⟨0, by omega, by omega, _, _, _, nf_of rfl ⟨rfl, rfl, rfl, rfl, rfl, trivial⟩ trivial, rfl, rfl, .inl ⟨rfl, rfl⟩⟩
    rintro m s' ⟨i, rfl, hi, F, G0, yy, rfl, b1, b9, hy⟩
    by_cases hd : i < L.length
    · have hd' : ((i : Int) < L.length) = True := eq_true (by omega)
      obtain ⟨k, hk⟩ : ∃ k, L[i]? = some k := ⟨_, List.getElem?_eq_getElem hd⟩
      have hkl := hlt k (List.mem_of_getElem? hk)
      have hk' := castL_get hk
      have hg' := gat_get2 hkl
      have hsR := htk i k hk
      have hsl2 : (gsR (ds.take i)).length ≤ 1000 := by rw [gsR_len, List.length_take]; omega
      generalize gat gts k = g at *
      rcases hy with ⟨y0, rfl⟩ | ⟨q', rfl, hr2⟩
      · rw [y0] at hsR
        repeat' first | refine c_seq ?_ | refine c_block ?_ | refine c_reg' rfl fun K E hK hE => ?_ | refine c_draw' rfl (by kernel_rfl) fun K E hK hE => ?_ | ((first | refine r_opN fun κ η => ?_ | refine d_opN (by kernel_rfl) fun κ η => ?_); simp only [go_sem, simprocAttr, Nat.le_refl, b1, b9, hd', hk', hg']; (repeat refine ⟨by omega, ?_⟩); refine η _ ?_; clear η κ) | (refine r_nil (hK _ ?_); clear hE hK E K) | refine q_seq ?_ | refine c_cond true rfl (fun _ => ?_) (fun h => (by cases h)) | (refine d_nil (hK _ ?_); clear hE hK E K) | refine q_blk ?_ | refine c_skip ?_ | refine q_lpN ?_
        exact ⟨L.length - (i + 1), by omega, i + 1, rfl, by omega, _, _, _, nf_of rfl ⟨rfl, rfl, rfl, rfl, rfl, trivial⟩ trivial, b1, rfl, .inr ⟨_, rfl, by rw [hsR]; rfl⟩⟩
      · generalize gsR (ds.take i) = rw0 at hsR hr2 hsl2
        repeat' first | refine c_seq ?_ | refine c_block ?_ | refine c_reg' rfl fun K E hK hE => ?_ | refine c_draw' rfl (by kernel_rfl) fun K E hK hE => ?_ | ((first | refine r_opN fun κ η => ?_ | refine d_opN (by kernel_rfl) fun κ η => ?_); simp only [go_sem, simprocAttr, Nat.le_refl, b1, b9, hd', hk', hg', hr2]; (repeat refine ⟨by omega, ?_⟩); refine η _ ?_; clear η κ) | (refine r_nil (hK _ ?_); clear hE hK E K) | refine q_seq ?_ | refine c_cond true rfl (fun _ => ?_) (fun h => (by cases h)) | (refine d_nil (hK _ ?_); clear hE hK E K) | refine q_blk ?_ | refine c_skip ?_ | refine q_lpN ?_
        exact ⟨L.length - (i + 1), by omega, i + 1, rfl, by omega, _, _, _, nf_of rfl ⟨rfl, rfl, rfl, rfl, rfl, trivial⟩ trivial, b1, rfl, .inr ⟨_, rfl, by rw [hsR]; rfl⟩⟩
    have hd' : ((i : Int) < L.length) = False := eq_false (by omega)
    rw [List.take_of_length_le (by omega)] at hy
    clear htk
    rcases hy with ⟨y0, rfl⟩ | ⟨q', rfl, hr2⟩
    · rw [y0] at hs2 hk2
      repeat' first | refine c_seq ?_ | refine c_reg' rfl fun K E hK hE => ?_ | (refine r_opN fun κ η => ?_; simp only [go_sem, simprocAttr, Nat.le_refl, b1, b9, hd']; refine η _ ?_; clear η κ) | (refine r_nil (hK _ ?_); clear hE hK E K) | refine q_seq ?_ | refine c_cond false rfl (fun h => (by cases h)) fun _ => ?_ | refine c_exit ?_ | refine q_seqE ?_ | refine q_blkHit ?_ | refine q_lpE ?_
      refine r_callF fun κ η => ?_; simp only [go_sem, simprocAttr, Nat.le_refl, b1, b9]; refine ⟨_, (hs2 _), ?_⟩; rintro _ _ ⟨rfl, rfl⟩; simp only [go_sem, simprocAttr, Nat.le_refl, b1, b9]; refine η _ ?_; clear η κ
      repeat' first | refine c_seq ?_ | refine c_block ?_ | refine c_reg' rfl fun K E hK hE => ?_ | (refine r_opN fun κ η => ?_; simp only [go_sem, simprocAttr, Nat.le_refl]; refine η _ ?_; clear η κ) | (refine r_nil (hK _ ?_); clear hE hK E K) | refine q_seq ?_
      refine c_loop (fun m s' => ∃ i : Nat, m = gts.length - i ∧ i ≤ gts.length ∧ ∃ F G0, s' = nf 94 F G0 [(1, .ptr 1 1 0), (3, .t (.b true)), (9, .ptr 9 1 0), (11, .t (.sl (iR RG))), (13, .t (.i .i64 i))] [] ∧ G0 1 = ⟨1, .cells 26 [.t (.sl (sR ins)), .t (.sl (sR outs)), .t (.sl (lsR las)), .t (.sl (gsR gts))]⟩ ∧ G0 9 = ⟨1, .cells 26 [.t (.sl (sR ins)), .t (.sl (sR outs)), .t (.sl (lsR las)), .nilS]⟩) gts.length ?_ ?_
      · exact ⟨0, by omega, by omega, _, _, nf_of rfl ⟨rfl, rfl, rfl, rfl, rfl, trivial⟩ trivial, b1, b9⟩
      clear b1 b9 hd hd' hi
      rintro m s' ⟨i, rfl, hi, F, G0, rfl, b1, b9⟩
      by_cases hd : i < gts.length
      · have hd' : ((i : Int) < gts.length) = True := eq_true (by omega)
        have hx := hrg i hd
        repeat' first | refine c_seq ?_ | refine c_block ?_ | refine c_reg' rfl fun K E hK hE => ?_ | (refine r_opN fun κ η => ?_; simp only [go_sem, simprocAttr, Nat.le_refl, hrl, hd', hx, eq_self, decide_true]; (repeat refine ⟨by omega, ?_⟩); refine η _ ?_; clear η κ) | (refine r_nil (hK _ ?_); clear hE hK E K) | refine q_seq ?_ | refine c_cond true rfl (fun _ => ?_) (fun h => (by cases h)) | refine c_cond false rfl (fun h => (by cases h)) fun _ => ?_ | refine q_blk ?_ | refine c_skip ?_ | refine q_lpN ?_
        exact ⟨gts.length - (i + 1), by omega, i + 1, rfl, by omega, _, _, nf_of rfl ⟨rfl, rfl, rfl, rfl, rfl, trivial⟩ trivial, b1, b9⟩
      have hd' : ((i : Int) < gts.length) = False := eq_false (by omega)
      repeat' first | refine c_seq ?_ | refine c_reg' rfl fun K E hK hE => ?_ | (refine r_opN fun κ η => ?_; simp only [go_sem, simprocAttr, Nat.le_refl, hrl, hd', b1, b9]; refine η _ ?_; clear η κ) | (refine r_nil (hK _ ?_); clear hE hK E K) | refine q_seq ?_ | refine c_cond false rfl (fun h => (by cases h)) fun _ => ?_ | refine c_exit ?_ | refine q_seqE ?_ | refine q_blkHit ?_ | refine q_lpE ?_
      refine r_callF fun κ η => ?_; simp only [go_sem, simprocAttr, Nat.le_refl, b1, b9]; refine ⟨_, (hk2 _), ?_⟩; rintro _ _ ⟨rfl, rfl⟩; simp only [go_sem, simprocAttr, Nat.le_refl, b1, b9]; refine η _ ?_; clear η κ
      repeat' first | refine c_seq ?_ | refine c_reg' rfl fun K E hK hE => ?_ | ((first | refine r_opN fun κ η => ?_ | refine r_opG rfl fun κ η => ?_); simp only [go_sem, simprocAttr, Nat.le_refl, hrl, b1, b9, eq_self, decide_true]; (repeat refine ⟨by omega, ?_⟩); refine η _ ?_; clear η κ) | (refine r_nil (hK _ ?_); clear hE hK E K) | refine q_seq ?_ | refine c_ret ?_ | (refine q_ret ?_; refine q_r1 ?_; simp only [go_sem, simprocAttr, Nat.le_refl, hrl, b1, b9, eq_self, decide_true])
    · repeat' first | refine c_seq ?_ | refine c_reg' rfl fun K E hK hE => ?_ | (refine r_opN fun κ η => ?_; simp only [go_sem, simprocAttr, Nat.le_refl, b1, b9, hd', hr2]; refine η _ ?_; clear η κ) | (refine r_nil (hK _ ?_); clear hE hK E K) | refine q_seq ?_ | refine c_cond false rfl (fun h => (by cases h)) fun _ => ?_ | refine c_exit ?_ | refine q_seqE ?_ | refine q_blkHit ?_ | refine q_lpE ?_
      refine r_callF fun κ η => ?_; simp only [go_sem, simprocAttr, Nat.le_refl, b1, b9, hr2]; refine ⟨_, (hs2 _), ?_⟩; rintro _ _ ⟨rfl, rfl⟩; simp only [go_sem, simprocAttr, Nat.le_refl, b1, b9, hr2]; refine η _ ?_; clear η κ
      repeat' first | refine c_seq ?_ | refine c_block ?_ | refine c_reg' rfl fun K E hK hE => ?_ | (refine r_opN fun κ η => ?_; simp only [go_sem, simprocAttr, Nat.le_refl]; refine η _ ?_; clear η κ) | (refine r_nil (hK _ ?_); clear hE hK E K) | refine q_seq ?_
      refine c_loop (fun m s' => ∃ i : Nat, m = gts.length - i ∧ i ≤ gts.length ∧ ∃ F G0, s' = nf 94 F G0 [(1, .ptr 1 1 0), (3, .t (.b true)), (9, .ptr 9 1 0), (11, .t (.sl (iR RG))), (13, .t (.i .i64 i))] [] ∧ G0 1 = ⟨1, .cells 26 [.t (.sl (sR ins)), .t (.sl (sR outs)), .t (.sl (lsR las)), .t (.sl (gsR gts))]⟩ ∧ G0 9 = ⟨1, .cells 26 [.t (.sl (sR ins)), .t (.sl (sR outs)), .t (.sl (lsR las)), .row 57 q']⟩ ∧ G0 57 = ⟨q', .ro (gsR ds)⟩) gts.length ?_ ?_
      · exact ⟨0, by omega, by omega, _, _, nf_of rfl ⟨rfl, rfl, rfl, rfl, rfl, trivial⟩ trivial, b1, b9, rfl⟩
      clear b1 b9 hd hd' hi hr2
      rintro m s' ⟨i, rfl, hi, F, G0, rfl, b1, b9, hr2⟩
      by_cases hd : i < gts.length
      · have hd' : ((i : Int) < gts.length) = True := eq_true (by omega)
        have hx := hrg i hd
        repeat' first | refine c_seq ?_ | refine c_block ?_ | refine c_reg' rfl fun K E hK hE => ?_ | (refine r_opN fun κ η => ?_; simp only [go_sem, simprocAttr, Nat.le_refl, hrl, hd', hx, eq_self, decide_true]; (repeat refine ⟨by omega, ?_⟩); refine η _ ?_; clear η κ) | (refine r_nil (hK _ ?_); clear hE hK E K) | refine q_seq ?_ | refine c_cond true rfl (fun _ => ?_) (fun h => (by cases h)) | refine c_cond false rfl (fun h => (by cases h)) fun _ => ?_ | refine q_blk ?_ | refine c_skip ?_ | refine q_lpN ?_
        exact ⟨gts.length - (i + 1), by omega, i + 1, rfl, by omega, _, _, nf_of rfl ⟨rfl, rfl, rfl, rfl, rfl, trivial⟩ trivial, b1, b9, hr2⟩
      have hd' : ((i : Int) < gts.length) = False := eq_false (by omega)
      repeat' first | refine c_seq ?_ | refine c_reg' rfl fun K E hK hE => ?_ | (refine r_opN fun κ η => ?_; simp only [go_sem, simprocAttr, Nat.le_refl, hrl, hd', b1, b9, hr2]; refine η _ ?_; clear η κ) | (refine r_nil (hK _ ?_); clear hE hK E K) | refine q_seq ?_ | refine c_cond false rfl (fun h => (by cases h)) fun _ => ?_ | refine c_exit ?_ | refine q_seqE ?_ | refine q_blkHit ?_ | refine q_lpE ?_
      refine r_callF fun κ η => ?_; simp only [go_sem, simprocAttr, Nat.le_refl, b1, b9, hr2]; refine ⟨_, (hk2 _), ?_⟩; rintro _ _ ⟨rfl, rfl⟩; simp only [go_sem, simprocAttr, Nat.le_refl, b1, b9, hr2]; refine η _ ?_; clear η κ
      repeat' first | refine c_seq ?_ | refine c_reg' rfl fun K E hK hE => ?_ | ((first | refine r_opN fun κ η => ?_ | refine r_opG rfl fun κ η => ?_); simp only [go_sem, simprocAttr, Nat.le_refl, hrl, b1, b9, hr2, eq_self, decide_true]; (repeat refine ⟨by omega, ?_⟩); refine η _ ?_; clear η κ) | (refine r_nil (hK _ ?_); clear hE hK E K) | refine q_seq ?_ | refine c_ret ?_ | (refine q_ret ?_; refine q_r1 ?_; simp only [go_sem, simprocAttr, Nat.le_refl, hrl, b1, b9, hr2, eq_self, decide_true])
end Go.Proofs.YtbhoeanfnbkenaaDoor
