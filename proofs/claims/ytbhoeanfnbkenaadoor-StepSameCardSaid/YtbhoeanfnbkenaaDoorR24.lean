import Derived.Test.YtbhoeanfnbkenaaDoorR22
namespace Go.Proofs.YtbhoeanfnbkenaaDoor
open Go.RowKit Go.WideMaps
set_option maxRecDepth 100000
set_option linter.unusedSimpArgs false
variable (Hy : World → Prop)
attribute [local irreducible] runM runD cwp seqQ blkQ lpQ retQ asQ bdQ bdY retP endR preD retD
theorem cloneS_ct (w : List (List T)) (hz : ∀ e ∈ w, e.length = 1) (h : w.length ≤ 1000000) : Ct Tryd.prog Hy 55 [.sl w] [.sl w] := by
  refine ct_of (cls := _root_.id) tt_ok follows_ Tryd.func55 rfl (by decide) (Nat.le_of_ble_eq_true rfl) ?_
  rw [show Tryd.f55.ntmps = 8 from rfl, s0_nf]
  simp only [List.zipIdx_cons, List.zipIdx_nil, List.map_cons, List.map_nil, Nat.reduceAdd]
  repeat' first | refine c_seq ?_ | refine c_reg' rfl fun K E hK hE => ?_ | (refine r_opN fun κ η => ?_; simp only [go_sem, simprocAttr, Nat.le_refl]; refine η _ ?_; clear η κ) | (refine r_nil (hK _ ?_); clear hE hK E K) | refine q_seq ?_
  refine r_nilE fun κ η => ?_; simp only [go_sem, simprocAttr, Nat.le_refl]; refine ⟨η _ ?_, fun nil_ => η _ ?_⟩ <;> clear η κ
  · repeat' first | (refine r_nil (hK _ ?_); clear hE hK E K) | refine q_seq ?_
    refine c_cond _ rfl (fun hq => (by cases hq)) (fun hq => ?_)
    repeat' first | refine c_seq ?_ | refine c_reg' rfl fun K E hK hE => ?_ | (refine r_opN fun κ η => ?_; simp only [go_sem, simprocAttr, Nat.le_refl, hz]; (repeat refine ⟨by omega, ?_⟩); refine η _ ?_; clear η κ) | (refine r_nil (hK _ ?_); clear hE hK E K) | refine q_seq ?_ | refine c_skip ?_ | refine c_ret ?_ | (refine q_ret ?_; refine q_r1 ?_; simp only [go_sem, simprocAttr, Nat.le_refl, hz])
  · repeat' first | (refine r_nil (hK _ ?_); clear hE hK E K) | refine q_seq ?_
    refine c_cond _ rfl (fun hq => ?_) (fun hq => (by cases hq))
    repeat' first | refine c_seq ?_ | refine c_reg' rfl fun K E hK hE => ?_ | (refine r_opN fun κ η => ?_; simp only [go_sem, simprocAttr, Nat.le_refl, nil_]; refine η _ ?_; clear η κ) | (refine r_nil (hK _ ?_); clear hE hK E K) | refine q_seq ?_ | refine c_ret ?_ | refine q_seqR ?_ | (refine q_ret ?_; refine q_r1 ?_; simp only [go_sem, simprocAttr, Nat.le_refl, nil_])
theorem rR_one (l : List Row) : ∀ e ∈ rR l, e.length = 1 := fun e he => by
  obtain ⟨x, _, rfl⟩ := List.mem_map.1 he
  rfl
def keepB (c : Ci) (s : ByteArray) : Bool := usedB (rconeL c c.outs) s
def trimC (c : Ci) : Ci := if (checkC c).1 = 0 then ⟨c.ins, c.outs, c.las.filter fun x => keepB c x.name, c.gts.filter fun g => keepB c g.name⟩ else ⟨[], [], [], []⟩
theorem keep_is {c : Ci} (hm : May c) {M : ByteArray → Bool} (hM : ∀ s, M s = true ↔ Rch (leadsL c) c.outs s) {s : ByteArray} (hs : s ∈ netsC c) : keepB c s = M s := by
  unfold keepB
  rw [Bool.eq_iff_iff, usedB_iff, ← cone_is hm hM, List.mem_filter]
  exact ⟨fun h => h.2, fun h => ⟨hs, h⟩⟩
theorem lsR_app (a b : List La) : lsR (a ++ b) = lsR a ++ lsR b := List.map_append
theorem gsR_app (a b : List Gt) : gsR (a ++ b) = gsR a ++ gsR b := List.map_append
theorem filter_snoc {α : Type} {l : List α} {p : α → Bool} {k : Nat} {x : α} (h : l[k]? = some x) : (l.take (k + 1)).filter p = (l.take k).filter p ++ if p x = true then [x] else [] := by
  rw [List.take_add_one, h, List.filter_append]
  cases c : p x <;> simp [c]
theorem filter_take_len {α : Type} (l : List α) (p : α → Bool) (k : Nat) : ((l.take k).filter p).length ≤ l.length := by
  have := List.length_filter_le p (l.take k)
  rw [List.length_take] at this
  omega
set_option maxHeartbeats 8000000 in
theorem otrim_ct (c : Ci) (hr : CRoom c) (hgo : GOk c.gts) (hlo : LOk c.las) : Ct Tryd.prog Hy 26 [.ag (cE c)] [.ag (cE (trimC c))] := by
  have hmb := fun (o : Nat → O) => Cm.of_ct (o := o) (mayBe_ct Hy c hr hgo hlo)
  by_cases h0 : (checkC c).1 = 0
  · have hmo := mok_of h0
    obtain ⟨⟨l1, l2⟩, l3⟩ := limit_fit (chk_parts h0).1
    have hos : ∀ s ∈ c.outs, s.size ≤ 1000000 := fun s hs => Nat.le_trans (name_size (names_fit (chk_parts h0).2.1 s (by
      unfold toldC
      exact List.mem_append_right _ (List.mem_append_left _ hs)))) (by decide)
    have hmk := mark_cm Hy c hmo c.outs (by omega) hos
    have hci := fun {M} hM {s} hs => keep_is (c := c) hmo.may (M := M) hM (s := s) hs
    have hla : ∀ x ∈ c.las, x.name ∈ netsC c := fun x hx => by
      unfold netsC
      exact List.mem_append_right _ (List.mem_append_left _ (List.mem_map_of_mem hx))
    have hga : ∀ x ∈ c.gts, x.name ∈ netsC c := fun x hx => by
      unfold netsC
      exact List.mem_append_right _ (List.mem_append_right _ (List.mem_map_of_mem hx))
    have htr : trimC c = ⟨c.ins, c.outs, c.las.filter fun x => keepB c x.name, c.gts.filter fun g => keepB c g.name⟩ := if_pos h0
    rw [htr]
    rw [decide_eq_true h0] at hmb
    have hM := mlawU
    have hks : ksOf tt 9 = .str := rfl
    have hcin := cloneS_ct Hy (sR c.ins) (sR_one _) (by rw [sR_len]; omega)
    have hcou := cloneS_ct Hy (sR c.outs) (sR_one _) (by rw [sR_len]; omega)
    have hsl := hmo.sla
    have hsg := hmo.nm
    generalize keepB c = K0 at *
    obtain ⟨ins, outs, las, gts⟩ := c
    simp only at hcin hcou hsl hsg hla hga l1 l2 l3
    simp only [cE, cA] at hmb hmk ⊢
    refine ct_of (cls := _root_.id) tt_ok follows_ Tryd.func26 rfl (by decide) (Nat.le_of_ble_eq_true rfl) ?_
    rw [show Tryd.f26.ntmps = 81 from rfl, s0_nf]
    simp only [List.zipIdx_cons, List.zipIdx_nil, List.map_cons, List.map_nil, Nat.reduceAdd, cE]
    repeat' first | refine c_seq ?_ | refine c_reg' rfl fun K E hK hE => ?_ | (refine r_opN fun κ η => ?_; simp only [go_sem, simprocAttr, Nat.le_refl]; refine η _ ?_; clear η κ) | (refine r_nil (hK _ ?_); clear hE hK E K) | refine q_seq ?_
    refine r_callF fun κ η => ?_; simp only [go_sem, simprocAttr, Nat.le_refl]; refine ⟨_, (hmb _), ?_⟩; rintro _ _ ⟨rfl, rfl⟩; simp only [go_sem, simprocAttr, Nat.le_refl]; refine η _ ?_; clear η κ
    repeat' first | refine c_seq ?_ | refine c_reg' rfl fun K E hK hE => ?_ | (refine r_opN fun κ η => ?_; simp only [go_sem, simprocAttr, Nat.le_refl]; (repeat refine ⟨by omega, ?_⟩); refine η _ ?_; clear η κ) | (refine r_nil (hK _ ?_); clear hE hK E K) | refine q_seq ?_ | refine c_cond false rfl (fun h => (by cases h)) fun _ => ?_ | refine c_skip ?_
    refine r_call fun κ η => ?_; simp only [go_sem, simprocAttr, Nat.le_refl]; refine ⟨_, hmk _, ?_⟩; rintro _ o2 ⟨q, Em, M, rfl, hq, hMk, hR, hF⟩; simp only [go_sem, simprocAttr, Nat.le_refl]; refine η _ ?_; clear η κ
    have b1 : o2 1 = ⟨_, .cells 26 [.t (.sl (sR ins)), .t (.sl (sR outs)), .t (.sl (lsR las)), .t (.sl (gsR gts))]⟩ := (hF 1 (by unfold badM; omega)).trans rfl
    have b2 : o2 2 = ⟨_, .cells 26 [.nilS, .nilS, .nilS, .nilS]⟩ := (hF 2 (by unfold badM; omega)).trans rfl
    have hkl : ∀ x ∈ las, M x.name = K0 x.name := fun x hx => (hci hR (hla x hx)).symm
    have hkg : ∀ x ∈ gts, M x.name = K0 x.name := fun x hx => (hci hR (hga x hx)).symm
    clear hF hR hci
    repeat' first | refine c_seq ?_ | refine c_draw' rfl (by kernel_rfl) fun K E hK hE => ?_ | ((first | refine r_opN fun κ η => ?_ | refine d_opN (by kernel_rfl) fun κ η => ?_); simp only [go_sem, simprocAttr, Nat.le_refl, b1]; (repeat refine ⟨by omega, ?_⟩); refine η _ ?_; clear η κ) | (refine r_nil (hK _ ?_); clear hE hK E K) | refine q_seq ?_
    refine d_opN (by kernel_rfl) fun κ η => ?_; simp only [go_sem, simprocAttr, Nat.le_refl]; refine ⟨_, hcin, ?_⟩; simp only [go_sem, simprocAttr, Nat.le_refl]; refine η _ ?_; clear η κ
    repeat' (refine d_opN (by kernel_rfl) fun κ η => ?_; simp only [go_sem, simprocAttr, Nat.le_refl, b1]; (repeat refine ⟨by omega, ?_⟩); refine η _ ?_; clear η κ)
    refine d_opN (by kernel_rfl) fun κ η => ?_; simp only [go_sem, simprocAttr, Nat.le_refl]; refine ⟨_, hcou, ?_⟩; simp only [go_sem, simprocAttr, Nat.le_refl]; refine η _ ?_; clear η κ
    repeat' first | refine c_seq ?_ | refine c_block ?_ | refine c_reg' rfl fun K E hK hE => ?_ | ((first | refine r_opN fun κ η => ?_ | refine d_opN (by kernel_rfl) fun κ η => ?_); simp only [go_sem, simprocAttr, Nat.le_refl, b1]; (repeat refine ⟨by omega, ?_⟩); refine η _ ?_; clear η κ) | (refine r_nil (hK _ ?_); clear hE hK E K) | refine q_seq ?_ | (refine d_nil (hK _ ?_); clear hE hK E K)
    refine c_loop (fun m s' => ∃ k : Nat, m = las.length - k ∧ k ≤ las.length ∧ ∃ F G0 g1 g2 g4 yy, s' = nf 81 F G0 [(1, .ptr 1 g1 0), (2, .ptr 2 g2 0), (3, .row 6457 q), (4, .ptr 4 g4 0), (29, .t (.sl (lsR las))), (30, .t (.i .i64 las.length)), (31, .t (.i .i64 k))] [] ∧ G0 1 = ⟨g1, .cells 26 [.t (.sl (sR ins)), .t (.sl (sR outs)), .t (.sl (lsR las)), .t (.sl (gsR gts))]⟩ ∧ G0 2 = ⟨g2, .cells 26 [.nilS, .nilS, .nilS, .nilS]⟩ ∧ G0 6457 = ⟨q, .map .str Em⟩ ∧ G0 4 = ⟨g4, .cells 26 [.t (.sl (sR ins)), .t (.sl (sR outs)), yy, .nilS]⟩ ∧ Acc G0 47 61 3 (lsR ((las.take k).filter fun x => K0 x.name)) yy) las.length ?_ ?_
    · exact ⟨0, by omega, by omega, _, _, _, _, _, _, nf_of rfl ⟨rfl, rfl, rfl, rfl, rfl, rfl, rfl, trivial⟩ trivial, b1, b2, hq, rfl, .inl ⟨rfl, rfl⟩⟩
    clear hq b1 b2
    rintro m s' ⟨k, rfl, hk, F, G0, g1, g2, g4, yy, rfl, b1, b2, hq, b4, hy⟩
    repeat' first | refine c_seq ?_ | refine c_reg' rfl fun K E hK hE => ?_ | (refine r_opN fun κ η => ?_; simp only [go_sem, simprocAttr, Nat.le_refl]; refine η _ ?_; clear η κ) | (refine r_nil (hK _ ?_); clear hE hK E K) | refine q_seq ?_
    refine c_cond _ rfl (fun hd => ?_) (fun hd => ?_)
    · simp only [decide_eq_true_eq] at hd
      obtain ⟨x, hx⟩ : ∃ x, las[k]? = some x := ⟨_, List.getElem?_eq_getElem (by omega)⟩
      have hx' := lsR_get hx
      have hxm := List.mem_of_getElem? hx
      have hxs := (hsl x hxm).1
      have hmx := hMk x.name
      rw [hkl x hxm] at hmx
      have hst := filter_snoc (p := fun x : La => K0 x.name) hx
      have hlen : (lsR ((las.take k).filter fun x => K0 x.name)).length ≤ 1000000 := by
        have := filter_take_len las (fun x : La => K0 x.name) k
        rw [lsR_len]
        omega
      cases hKx : K0 x.name with
      | true =>
        rw [if_pos hKx] at hmx hst
        have hs2 : lsR ((las.take (k + 1)).filter fun x => K0 x.name) = lsR ((las.take k).filter fun x => K0 x.name) ++ [[.s x.name, .s x.next, .i .i64 x.init]] := by rw [hst, lsR_app]; rfl
        rcases hy with ⟨h0, rfl⟩ | ⟨q', rfl, hr2⟩
        · rw [h0] at hs2
          repeat' first | refine c_seq ?_ | refine c_block ?_ | refine c_reg' rfl fun K E hK hE => ?_ | (refine r_opN fun κ η => ?_; simp only [go_sem, simprocAttr, Nat.le_refl, hx', hq, hks, Ky.ok, hmx, b4]; (repeat refine ⟨by omega, ?_⟩); refine η _ ?_; clear η κ) | (refine r_nil (hK _ ?_); clear hE hK E K) | refine q_seq ?_ | refine c_cond true rfl (fun _ => ?_) (fun h => (by cases h)) | refine q_blk ?_ | refine c_skip ?_ | refine q_lpN ?_
          exact ⟨las.length - (k + 1), by omega, k + 1, rfl, by omega, _, _, g1, g2, g4, _, nf_of rfl ⟨rfl, rfl, rfl, rfl, rfl, rfl, rfl, trivial⟩ trivial, b1, b2, hq, rfl, .inr ⟨_, rfl, by rw [hs2]; rfl⟩⟩
        · generalize lsR ((las.take k).filter fun x => K0 x.name) = rw0 at hr2 hs2 hlen
          repeat' first | refine c_seq ?_ | refine c_block ?_ | refine c_reg' rfl fun K E hK hE => ?_ | (refine r_opN fun κ η => ?_; simp only [go_sem, simprocAttr, Nat.le_refl, hx', hq, hks, Ky.ok, hmx, b4, hr2]; (repeat refine ⟨by omega, ?_⟩); refine η _ ?_; clear η κ) | (refine r_nil (hK _ ?_); clear hE hK E K) | refine q_seq ?_ | refine c_cond true rfl (fun _ => ?_) (fun h => (by cases h)) | refine q_blk ?_ | refine c_skip ?_ | refine q_lpN ?_
          exact ⟨las.length - (k + 1), by omega, k + 1, rfl, by omega, _, _, g1, g2, g4, _, nf_of rfl ⟨rfl, rfl, rfl, rfl, rfl, rfl, rfl, trivial⟩ trivial, b1, b2, hq, rfl, .inr ⟨_, rfl, by rw [hs2]; rfl⟩⟩
      | false =>
        rw [if_neg (by rw [hKx]; decide)] at hmx hst
        rw [List.append_nil] at hst
        repeat' first | refine c_seq ?_ | refine c_block ?_ | refine c_reg' rfl fun K E hK hE => ?_ | (refine r_opN fun κ η => ?_; simp only [go_sem, simprocAttr, Nat.le_refl, hx', hq, hks, Ky.ok, hmx]; (repeat refine ⟨by omega, ?_⟩); refine η _ ?_; clear η κ) | (refine r_nil (hK _ ?_); clear hE hK E K) | refine q_seq ?_ | refine c_cond false rfl (fun h => (by cases h)) fun _ => ?_ | refine q_blk ?_ | refine c_skip ?_ | refine q_lpN ?_
        exact ⟨las.length - (k + 1), by omega, k + 1, rfl, by omega, _, _, g1, g2, g4, yy, nf_of rfl ⟨rfl, rfl, rfl, rfl, rfl, rfl, rfl, trivial⟩ trivial, b1, b2, hq, b4, by rw [hst]; exact hy⟩
    simp only [decide_eq_false_iff_not] at hd
    rw [List.take_of_length_le (by omega)] at hy
    generalize hlf : (las.filter fun x => K0 x.name) = lf at *
    repeat' first | refine c_seq ?_ | refine c_block ?_ | refine c_reg' rfl fun K E hK hE => ?_ | (refine r_opN fun κ η => ?_; simp only [go_sem, simprocAttr, Nat.le_refl, b1]; (repeat refine ⟨by omega, ?_⟩); refine η _ ?_; clear η κ) | (refine r_nil (hK _ ?_); clear hE hK E K) | refine q_seq ?_ | refine c_exit ?_ | refine q_seqE ?_ | refine q_blkHit ?_ | refine q_lpE ?_
    refine c_loop (fun m s' => ∃ k : Nat, m = gts.length - k ∧ k ≤ gts.length ∧ ∃ F G0 zz, s' = nf 81 F G0 [(2, .ptr 2 g2 0), (3, .row 6457 q), (4, .ptr 4 g4 0), (51, .t (.sl (gsR gts))), (52, .t (.i .i64 gts.length)), (53, .t (.i .i64 k))] [] ∧ G0 2 = ⟨g2, .cells 26 [.nilS, .nilS, .nilS, .nilS]⟩ ∧ G0 6457 = ⟨q, .map .str Em⟩ ∧ G0 4 = ⟨g4, .cells 26 [.t (.sl (sR ins)), .t (.sl (sR outs)), yy, zz]⟩ ∧ Acc G0 47 61 3 (lsR lf) yy ∧ Acc G0 77 45 5 (gsR ((gts.take k).filter fun x => K0 x.name)) zz) gts.length ?_ ?_
    · exact ⟨0, by omega, by omega, _, _, _, nf_of rfl ⟨rfl, rfl, rfl, rfl, rfl, rfl, trivial⟩ trivial, b2, hq, b4, hy, .inl ⟨rfl, rfl⟩⟩
    clear hq b1 b2 b4 hy hd
    rintro m s' ⟨k, rfl, hk, F, G0, zz, rfl, b2, hq, b4, hy, hzz⟩
    repeat' first | refine c_seq ?_ | refine c_reg' rfl fun K E hK hE => ?_ | (refine r_opN fun κ η => ?_; simp only [go_sem, simprocAttr, Nat.le_refl]; refine η _ ?_; clear η κ) | (refine r_nil (hK _ ?_); clear hE hK E K) | refine q_seq ?_
    refine c_cond _ rfl (fun hd => ?_) (fun hd => ?_)
    · simp only [decide_eq_true_eq] at hd
      obtain ⟨x, hx⟩ : ∃ x, gts[k]? = some x := ⟨_, List.getElem?_eq_getElem (by omega)⟩
      have hx' := gsR_get hx
      have hxm := List.mem_of_getElem? hx
      have hxs := hsg x hxm
      have hmx := hMk x.name
      rw [hkg x hxm] at hmx
      have hst := filter_snoc (p := fun x : Gt => K0 x.name) hx
      obtain ⟨x8, x128⟩ := l3 x hxm
      have hc1 := cloneS_ct Hy (sR x.ins) (sR_one _) (by rw [sR_len]; omega)
      have hc2 := cloneS_ct Hy (rR x.rows) (rR_one _) (by rw [rR_len]; omega)
      have hlen : (gsR ((gts.take k).filter fun x => K0 x.name)).length ≤ 1000000 := by
        have := filter_take_len gts (fun x : Gt => K0 x.name) k
        rw [gsR_len]
        omega
      cases hKx : K0 x.name with
      | true =>
        rw [if_pos hKx] at hmx hst
        have hs2 : gsR ((gts.take (k + 1)).filter fun x => K0 x.name) = gsR ((gts.take k).filter fun x => K0 x.name) ++ [[.s x.name, .i .i64 x.op, .sl (sR x.ins), .sl (rR x.rows), .b x.off]] := by rw [hst, gsR_app]; rfl
        rcases hzz with ⟨h0, rfl⟩ | ⟨q', rfl, hr2⟩
        · rw [h0] at hs2
          repeat' first | refine c_seq ?_ | refine c_block ?_ | refine c_reg' rfl fun K E hK hE => ?_ | refine c_draw' rfl (by kernel_rfl) fun K E hK hE => ?_ | ((first | refine r_opN fun κ η => ?_ | refine d_opN (by kernel_rfl) fun κ η => ?_); simp only [go_sem, simprocAttr, Nat.le_refl, hx', hq, hks, Ky.ok, hmx, b4]; (repeat refine ⟨by omega, ?_⟩); refine η _ ?_; clear η κ) | (refine r_nil (hK _ ?_); clear hE hK E K) | refine q_seq ?_ | refine c_cond true rfl (fun _ => ?_) (fun h => (by cases h)) | refine c_skip ?_
          refine d_opN (by kernel_rfl) fun κ η => ?_; simp only [go_sem, simprocAttr, Nat.le_refl]; refine ⟨_, hc1, ?_⟩; simp only [go_sem, simprocAttr, Nat.le_refl]; refine η _ ?_; clear η κ
          repeat' (refine d_opN (by kernel_rfl) fun κ η => ?_; simp only [go_sem, simprocAttr, Nat.le_refl]; (repeat refine ⟨by omega, ?_⟩); refine η _ ?_; clear η κ)
          refine d_opN (by kernel_rfl) fun κ η => ?_; simp only [go_sem, simprocAttr, Nat.le_refl]; refine ⟨_, hc2, ?_⟩; simp only [go_sem, simprocAttr, Nat.le_refl]; refine η _ ?_; clear η κ
          repeat' first | refine c_reg' rfl fun K E hK hE => ?_ | ((first | refine r_opN fun κ η => ?_ | refine d_opN (by kernel_rfl) fun κ η => ?_); simp only [go_sem, simprocAttr, Nat.le_refl, b4]; (repeat refine ⟨by omega, ?_⟩); refine η _ ?_; clear η κ) | (refine r_nil (hK _ ?_); clear hE hK E K) | refine q_seq ?_ | (refine d_nil (hK _ ?_); clear hE hK E K) | refine q_blk ?_ | refine q_lpN ?_
          exact ⟨gts.length - (k + 1), by omega, k + 1, rfl, by omega, _, _, _, nf_of rfl ⟨rfl, rfl, rfl, rfl, rfl, rfl, trivial⟩ trivial, b2, hq, rfl, hy, .inr ⟨_, rfl, by rw [hs2]; rfl⟩⟩
        · generalize gsR ((gts.take k).filter fun x => K0 x.name) = rw0 at hr2 hs2 hlen
          repeat' first | refine c_seq ?_ | refine c_block ?_ | refine c_reg' rfl fun K E hK hE => ?_ | refine c_draw' rfl (by kernel_rfl) fun K E hK hE => ?_ | ((first | refine r_opN fun κ η => ?_ | refine d_opN (by kernel_rfl) fun κ η => ?_); simp only [go_sem, simprocAttr, Nat.le_refl, hx', hq, hks, Ky.ok, hmx, b4, hr2]; (repeat refine ⟨by omega, ?_⟩); refine η _ ?_; clear η κ) | (refine r_nil (hK _ ?_); clear hE hK E K) | refine q_seq ?_ | refine c_cond true rfl (fun _ => ?_) (fun h => (by cases h)) | refine c_skip ?_
          refine d_opN (by kernel_rfl) fun κ η => ?_; simp only [go_sem, simprocAttr, Nat.le_refl]; refine ⟨_, hc1, ?_⟩; simp only [go_sem, simprocAttr, Nat.le_refl]; refine η _ ?_; clear η κ
          repeat' (refine d_opN (by kernel_rfl) fun κ η => ?_; simp only [go_sem, simprocAttr, Nat.le_refl]; (repeat refine ⟨by omega, ?_⟩); refine η _ ?_; clear η κ)
          refine d_opN (by kernel_rfl) fun κ η => ?_; simp only [go_sem, simprocAttr, Nat.le_refl]; refine ⟨_, hc2, ?_⟩; simp only [go_sem, simprocAttr, Nat.le_refl]; refine η _ ?_; clear η κ
          repeat' first | refine c_reg' rfl fun K E hK hE => ?_ | ((first | refine r_opN fun κ η => ?_ | refine d_opN (by kernel_rfl) fun κ η => ?_); simp only [go_sem, simprocAttr, Nat.le_refl, b4, hr2]; (repeat refine ⟨by omega, ?_⟩); refine η _ ?_; clear η κ) | (refine r_nil (hK _ ?_); clear hE hK E K) | refine q_seq ?_ | (refine d_nil (hK _ ?_); clear hE hK E K) | refine q_blk ?_ | refine q_lpN ?_
          exact ⟨gts.length - (k + 1), by omega, k + 1, rfl, by omega, _, _, _, nf_of rfl ⟨rfl, rfl, rfl, rfl, rfl, rfl, trivial⟩ trivial, b2, hq, rfl, hy, .inr ⟨_, rfl, by rw [hs2]; rfl⟩⟩
      | false =>
        rw [if_neg (by rw [hKx]; decide)] at hmx hst
        rw [List.append_nil] at hst
        repeat' first | refine c_seq ?_ | refine c_block ?_ | refine c_reg' rfl fun K E hK hE => ?_ | (refine r_opN fun κ η => ?_; simp only [go_sem, simprocAttr, Nat.le_refl, hx', hq, hks, Ky.ok, hmx]; (repeat refine ⟨by omega, ?_⟩); refine η _ ?_; clear η κ) | (refine r_nil (hK _ ?_); clear hE hK E K) | refine q_seq ?_ | refine c_cond false rfl (fun h => (by cases h)) fun _ => ?_ | refine q_blk ?_ | refine c_skip ?_ | refine q_lpN ?_
        exact ⟨gts.length - (k + 1), by omega, k + 1, rfl, by omega, _, _, zz, nf_of rfl ⟨rfl, rfl, rfl, rfl, rfl, rfl, trivial⟩ trivial, b2, hq, b4, hy, by rw [hst]; exact hzz⟩
    simp only [decide_eq_false_iff_not] at hd
    rw [List.take_of_length_le (by omega)] at hzz
    generalize (gts.filter fun x => K0 x.name) = gf at *
    rcases hy with ⟨y0, rfl⟩ | ⟨qy, rfl, hry⟩ <;> rcases hzz with ⟨z0, rfl⟩ | ⟨qz, rfl, hrz⟩
    · rw [y0, z0]
      repeat' first | refine c_seq ?_ | refine c_reg' rfl fun K E hK hE => ?_ | (refine r_opN fun κ η => ?_; simp only [go_sem, simprocAttr, Nat.le_refl, b4, b2]; refine η _ ?_; clear η κ) | (refine r_nil (hK _ ?_); clear hE hK E K) | refine q_seq ?_ | refine c_exit ?_ | refine c_ret ?_ | refine q_seqE ?_ | refine q_blkHit ?_ | refine q_lpE ?_ | (refine q_ret ?_; refine q_rc ?_; simp only [go_sem, simprocAttr, Nat.le_refl, b4, b2])
    · rw [y0]
      repeat' first | refine c_seq ?_ | refine c_reg' rfl fun K E hK hE => ?_ | (refine r_opN fun κ η => ?_; simp only [go_sem, simprocAttr, Nat.le_refl, b4, b2, hrz]; refine η _ ?_; clear η κ) | (refine r_nil (hK _ ?_); clear hE hK E K) | refine q_seq ?_ | refine c_exit ?_ | refine c_ret ?_ | refine q_seqE ?_ | refine q_blkHit ?_ | refine q_lpE ?_ | (refine q_ret ?_; refine q_rc ?_; simp only [go_sem, simprocAttr, Nat.le_refl, b4, b2, hrz])
    · rw [z0]
      repeat' first | refine c_seq ?_ | refine c_reg' rfl fun K E hK hE => ?_ | (refine r_opN fun κ η => ?_; simp only [go_sem, simprocAttr, Nat.le_refl, b4, b2, hry]; refine η _ ?_; clear η κ) | (refine r_nil (hK _ ?_); clear hE hK E K) | refine q_seq ?_ | refine c_exit ?_ | refine c_ret ?_ | refine q_seqE ?_ | refine q_blkHit ?_ | refine q_lpE ?_ | (refine q_ret ?_; refine q_rc ?_; simp only [go_sem, simprocAttr, Nat.le_refl, b4, b2, hry])
    · repeat' first | refine c_seq ?_ | refine c_reg' rfl fun K E hK hE => ?_ | (refine r_opN fun κ η => ?_; simp only [go_sem, simprocAttr, Nat.le_refl, b4, b2, hry, hrz]; refine η _ ?_; clear η κ) | (refine r_nil (hK _ ?_); clear hE hK E K) | refine q_seq ?_ | refine c_exit ?_ | refine c_ret ?_ | refine q_seqE ?_ | refine q_blkHit ?_ | refine q_lpE ?_ | (refine q_ret ?_; refine q_rc ?_; simp only [go_sem, simprocAttr, Nat.le_refl, b4, b2, hry, hrz])
  · have htr : trimC c = ⟨[], [], [], []⟩ := if_neg h0
    rw [htr]
    rw [decide_eq_false h0] at hmb
    obtain ⟨ins, outs, las, gts⟩ := c
    simp only [cE] at hmb ⊢
    refine ct_of (cls := _root_.id) tt_ok follows_ Tryd.func26 rfl (by decide) (Nat.le_of_ble_eq_true rfl) ?_
    rw [show Tryd.f26.ntmps = 81 from rfl, s0_nf]
    simp only [List.zipIdx_cons, List.zipIdx_nil, List.map_cons, List.map_nil, Nat.reduceAdd, cE]
    repeat' first | refine c_seq ?_ | refine c_reg' rfl fun K E hK hE => ?_ | (refine r_opN fun κ η => ?_; simp only [go_sem, simprocAttr, Nat.le_refl]; refine η _ ?_; clear η κ) | (refine r_nil (hK _ ?_); clear hE hK E K) | refine q_seq ?_
    refine r_callF fun κ η => ?_; simp only [go_sem, simprocAttr, Nat.le_refl]; refine ⟨_, (hmb _), ?_⟩; rintro _ _ ⟨rfl, rfl⟩; simp only [go_sem, simprocAttr, Nat.le_refl]; refine η _ ?_; clear η κ
    repeat' first | refine c_seq ?_ | refine c_reg' rfl fun K E hK hE => ?_ | (refine r_opN fun κ η => ?_; simp only [go_sem, simprocAttr, Nat.le_refl]; refine η _ ?_; clear η κ) | (refine r_nil (hK _ ?_); clear hE hK E K) | refine q_seq ?_ | refine c_cond true rfl (fun _ => ?_) (fun h => (by cases h)) | refine c_ret ?_ | refine q_seqR ?_ | (refine q_ret ?_; refine q_rc ?_; simp only [go_sem, simprocAttr, Nat.le_refl])
    rfl
end Go.Proofs.YtbhoeanfnbkenaaDoor
