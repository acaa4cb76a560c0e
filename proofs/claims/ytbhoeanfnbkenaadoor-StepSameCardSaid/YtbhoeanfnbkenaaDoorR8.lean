import Derived.Test.YtbhoeanfnbkenaaDoorR7
namespace Go.Proofs.YtbhoeanfnbkenaaDoor
open Go.RowKit Go.WideMaps
set_option maxRecDepth 100000
set_option linter.unusedSimpArgs false
variable (Hy : World → Prop)
attribute [local irreducible] runM runD cwp seqQ blkQ lpQ retQ asQ bdQ bdY retP endR preD retD
set_option maxHeartbeats 2000000 in
theorem rnets_ct (c : Ci) (hc : CFit c) : Ct Tryd.prog Hy 52 [.ag (cE c)] [.sl (sR (netsC c))] := by
  obtain ⟨ins, outs, las, gts⟩ := c
  obtain ⟨h1, _, h3, h4⟩ := hc
  simp only at h1 h3 h4
  have hz0 := sR_one ins
  refine ct_of (cls := _root_.id) tt_ok follows_ Tryd.func52 rfl (by decide) (Nat.le_of_ble_eq_true rfl) ?_
  rw [show Tryd.f52.ntmps = 43 from rfl, s0_nf]
  simp only [List.zipIdx_cons, List.zipIdx_nil, List.map_cons, List.map_nil, Nat.reduceAdd, cE]
  repeat' first | refine c_seq ?_ | refine c_block ?_ | refine c_reg' rfl fun K E hK hE => ?_ | (refine r_opN fun κ η => ?_; simp only [go_sem, simprocAttr, Nat.le_refl]; (repeat refine ⟨by omega, ?_⟩); refine η _ ?_; clear η κ) | (refine r_nil (hK _ ?_); clear hE hK E K) | refine q_seq ?_
  refine c_loop (fun m s' => ∃ k : Nat, m = las.length - k ∧ k ≤ las.length ∧ ∃ F G0 q, s' = nf 43 F G0 [(1, .ptr 1 1 0), (3, .row 9 q), (4, .t (.i .i64 k))] [] ∧ G0 1 = ⟨1, .cells 26 [.t (.sl (sR ins)), .t (.sl (sR outs)), .t (.sl (lsR las)), .t (.sl (gsR gts))]⟩ ∧ G0 9 = ⟨q, .row 9 1 (sR (ins ++ (las.take k).map (·.name)))⟩) las.length ?_ ?_
  · exact ⟨0, by omega, by omega, _, _, _, nf_of rfl ⟨rfl, rfl, rfl, trivial⟩ trivial, rfl, by rw [List.take_zero, List.map_nil, List.append_nil]; rfl⟩
  rintro m s' ⟨k, rfl, hk, F, G0, q, rfl, g1, g2⟩
  have hb : (ins ++ (las.take k).map (·.name)).length ≤ 2000000 := by rw [List.length_append, List.length_map, List.length_take]; omega
  repeat' first | refine c_seq ?_ | refine c_reg' rfl fun K E hK hE => ?_ | (refine r_opN fun κ η => ?_; simp only [go_sem, simprocAttr, Nat.le_refl, g1]; (repeat refine ⟨by omega, ?_⟩); refine η _ ?_; clear η κ) | (refine r_nil (hK _ ?_); clear hE hK E K) | refine q_seq ?_
  refine c_cond _ rfl (fun hq => ?_) (fun hq => ?_)
  · simp only [decide_eq_true_eq] at hq
    obtain ⟨x, hx⟩ : ∃ x, las[k]? = some x := ⟨_, List.getElem?_eq_getElem (by omega)⟩
    have hx' := lsR_get hx
    have hs : sR (ins ++ (las.take (k + 1)).map (·.name)) = sR (ins ++ (las.take k).map (·.name)) ++ [[.s x.name]] := by
      rw [List.take_add_one, hx, List.map_append, ← List.append_assoc, sR_app]
      rfl
    generalize ins ++ (las.take k).map (·.name) = w at g2 hs hb
    repeat' first | refine c_seq ?_ | refine c_block ?_ | refine c_reg' rfl fun K E hK hE => ?_ | (refine r_opN fun κ η => ?_; simp only [go_sem, simprocAttr, Nat.le_refl, hx', g1, g2]; (repeat refine ⟨by omega, ?_⟩); refine η _ ?_; clear η κ) | (refine r_nil (hK _ ?_); clear hE hK E K) | refine q_seq ?_ | refine q_blk ?_ | refine c_skip ?_ | refine q_lpN ?_
    exact ⟨las.length - (k + 1), by omega, k + 1, rfl, by omega, _, _, _, nf_of rfl ⟨rfl, rfl, rfl, trivial⟩ trivial, g1, by rw [hs]; rfl⟩
  · simp only [decide_eq_false_iff_not] at hq
    rw [List.take_of_length_le (by omega)] at g2
    repeat' first | refine c_seq ?_ | refine c_block ?_ | refine c_reg' rfl fun K E hK hE => ?_ | (refine r_opN fun κ η => ?_; simp only [go_sem, simprocAttr, Nat.le_refl, g1]; refine η _ ?_; clear η κ) | (refine r_nil (hK _ ?_); clear hE hK E K) | refine q_seq ?_ | refine c_exit ?_ | refine q_seqE ?_ | refine q_blkHit ?_ | refine q_lpE ?_
    refine c_loop (fun m s' => ∃ k : Nat, m = gts.length - k ∧ k ≤ gts.length ∧ ∃ F G0 q, s' = nf 43 F G0 [(1, .ptr 1 1 0), (3, .row 9 q), (5, .t (.i .i64 k))] [] ∧ G0 1 = ⟨1, .cells 26 [.t (.sl (sR ins)), .t (.sl (sR outs)), .t (.sl (lsR las)), .t (.sl (gsR gts))]⟩ ∧ G0 9 = ⟨q, .row 9 1 (sR (ins ++ (las.map (·.name) ++ (gts.take k).map (·.name))))⟩) gts.length ?_ ?_
    · exact ⟨0, by omega, by omega, _, _, _, nf_of rfl ⟨rfl, rfl, rfl, trivial⟩ trivial, g1, by rw [List.take_zero, List.map_nil, List.append_nil]; exact g2⟩
    clear g1 g2 hb
    rintro m s' ⟨k, rfl, hk, F, G0, q, rfl, g1, g2⟩
    have hb : (ins ++ (las.map (·.name) ++ (gts.take k).map (·.name))).length ≤ 3000000 := by rw [List.length_append, List.length_append, List.length_map, List.length_map, List.length_take]; omega
    repeat' first | refine c_seq ?_ | refine c_reg' rfl fun K E hK hE => ?_ | (refine r_opN fun κ η => ?_; simp only [go_sem, simprocAttr, Nat.le_refl, g1]; (repeat refine ⟨by omega, ?_⟩); refine η _ ?_; clear η κ) | (refine r_nil (hK _ ?_); clear hE hK E K) | refine q_seq ?_
    refine c_cond _ rfl (fun hq => ?_) (fun hq => ?_)
    · simp only [decide_eq_true_eq] at hq
      obtain ⟨x, hx⟩ : ∃ x, gts[k]? = some x := ⟨_, List.getElem?_eq_getElem (by omega)⟩
      have hx' := gsR_get hx
      have hs : sR (ins ++ (las.map (·.name) ++ (gts.take (k + 1)).map (·.name))) = sR (ins ++ (las.map (·.name) ++ (gts.take k).map (·.name))) ++ [[.s x.name]] := by
        rw [List.take_add_one, hx, List.map_append, ← List.append_assoc, ← List.append_assoc, ← List.append_assoc, sR_app]
        rfl
      generalize ins ++ (las.map (·.name) ++ (gts.take k).map (·.name)) = w at g2 hs hb
      repeat' first | refine c_seq ?_ | refine c_block ?_ | refine c_reg' rfl fun K E hK hE => ?_ | (refine r_opN fun κ η => ?_; simp only [go_sem, simprocAttr, Nat.le_refl, hx', g1, g2]; (repeat refine ⟨by omega, ?_⟩); refine η _ ?_; clear η κ) | (refine r_nil (hK _ ?_); clear hE hK E K) | refine q_seq ?_ | refine q_blk ?_ | refine c_skip ?_ | refine q_lpN ?_
      exact ⟨gts.length - (k + 1), by omega, k + 1, rfl, by omega, _, _, _, nf_of rfl ⟨rfl, rfl, rfl, trivial⟩ trivial, g1, by rw [hs]; rfl⟩
    · simp only [decide_eq_false_iff_not] at hq
      rw [List.take_of_length_le (by omega)] at g2
      have hz := sR_one (netsC ⟨ins, outs, las, gts⟩)
      have g2 : G0 9 = ⟨q, .row 9 1 (sR (netsC ⟨ins, outs, las, gts⟩))⟩ := g2
      repeat' first | refine c_seq ?_ | refine c_reg' rfl fun K E hK hE => ?_ | (refine r_opN fun κ η => ?_; simp only [go_sem, simprocAttr, Nat.le_refl, g2]; refine η _ ?_; clear η κ) | (refine r_nil (hK _ ?_); clear hE hK E K) | refine q_seq ?_ | refine c_exit ?_ | refine c_ret ?_ | refine q_seqE ?_ | refine q_blkHit ?_ | refine q_lpE ?_ | (refine q_ret ?_; refine q_r1 ?_; simp only [go_sem, simprocAttr, Nat.le_refl, g2])
end Go.Proofs.YtbhoeanfnbkenaaDoor
namespace Go.Proofs.YtbhoeanfnbkenaaDoor
open Go.RowKit Go.WideMaps
set_option maxRecDepth 100000
set_option linter.unusedSimpArgs false
variable (Hy : World → Prop)
attribute [local irreducible] runM runD cwp seqQ blkQ lpQ retQ asQ bdQ bdY retP endR preD retD
structure CSz (c : Ci) : Prop where
  told : ∀ s ∈ toldC c, s.size ≤ 140737488355328
  rows : ∀ g ∈ c.gts, ∀ r ∈ g.rows, r.length ≤ 140737488355328
end Go.Proofs.YtbhoeanfnbkenaaDoor
