import Derived.Test.YtbhoeanfnbkenaaDoorR24
import Derived.Test.YtbhoeanfnbkenaaDoorR35
import Derived.Test.YtbhoeanfnbkenaaDoorR32
namespace Go.Proofs.YtbhoeanfnbkenaaDoor
open Go.RowKit Go.WideMaps
set_option maxRecDepth 100000
set_option linter.unusedSimpArgs false
variable (Hy : World → Prop)
attribute [local irreducible] runM runD cwp seqQ blkQ lpQ retQ asQ bdQ bdY retP endR preD retD
theorem smayBe_ct (c : Ci) (hr : CRoom c) (hgo : GOk c.gts) (hlo : LOk c.las) : Ct Tryd.prog Hy 74 [.ag (cE c)] [.b (decide ((checkO c).1 = 0))] := by
  have hck := ocheck_ct Hy c hr hgo hlo
  obtain ⟨ins, outs, las, gts⟩ := c
  simp only [cE] at hck ⊢
  refine ct_of (cls := _root_.id) tt_ok follows_ Tryd.func74 rfl (by decide) (Nat.le_of_ble_eq_true rfl) ?_
  rw [show Tryd.f74.ntmps = 12 from rfl, s0_nf]
  simp only [List.zipIdx_cons, List.zipIdx_nil, List.map_cons, List.map_nil, Nat.reduceAdd]
  repeat' first | refine c_seq ?_ | refine c_reg' rfl fun K E hK hE => ?_ | (refine r_opN fun κ η => ?_; simp only [go_sem, simprocAttr, Nat.le_refl]; refine η _ ?_; clear η κ) | (refine r_nil (hK _ ?_); clear hE hK E K) | refine q_seq ?_
  refine r_opN fun κ η => ?_; simp only [go_sem, simprocAttr, Nat.le_refl]; refine ⟨_, hck, ?_⟩; simp only [go_sem, simprocAttr, Nat.le_refl]; refine η _ ?_; clear η κ
  repeat' first | refine c_seq ?_ | refine c_reg' rfl fun K E hK hE => ?_ | (refine r_opN fun κ η => ?_; simp only [go_sem, simprocAttr, Nat.le_refl]; refine η _ ?_; clear η κ) | (refine r_nil (hK _ ?_); clear hE hK E K) | refine q_seq ?_ | refine c_ret ?_ | (refine q_ret ?_; refine q_r1 ?_; simp only [go_sem, simprocAttr, Nat.le_refl])
def bl (l : List Bool) : List (List T) := l.map fun x => [.b x]
theorem bl_len (l : List Bool) : (bl l).length = l.length := List.length_map _
attribute [go_sem] bl_len
theorem bl_get {l : List Bool} {k : Nat} {x : Bool} (h : l[k]? = some x) : (bl l)[k]? = some [.b x] := by unfold bl; rw [List.getElem?_map, h]; rfl
theorem bl_app (a b : List Bool) : bl (a ++ b) = bl a ++ bl b := List.map_append
theorem bl_drop (a : List Bool) (k : Nat) : (bl a).drop k = bl (a.drop k) := List.map_drop.symm
theorem bl_set (l : List Bool) (k : Nat) (x : Bool) : (bl l).set k [.b x] = bl (l.set k x) := by unfold bl; rw [List.map_set]
theorem bl_one (l : List Bool) : ∀ e ∈ bl l, e.length = 1 := fun e he => by
  obtain ⟨x, _, rfl⟩ := List.mem_map.1 he
  rfl
theorem bl_rep (n : Nat) : List.replicate n [T.b false] = bl (List.replicate n false) := by unfold bl; rw [List.map_replicate]
def lat (las : List La) (k : Nat) : La := las.getD k ⟨noneT, noneT, 0⟩
theorem lat_get {las : List La} {k : Nat} {x : La} (h : las[k]? = some x) : lat las k = x := by unfold lat; rw [List.getD_eq_getElem?_getD, h]; rfl
def twos (las : List La) (k : Nat) : Nat := ((las.take k).filter fun x => decide (x.init = 2)).length
theorem twos_succ {las : List La} {k : Nat} {x : La} (h : las[k]? = some x) : twos las (k + 1) = twos las k + if x.init = 2 then 1 else 0 := by
  unfold twos
  rw [List.take_add_one, h, List.filter_append, List.length_append]
  by_cases c : x.init = 2 <;> simp [c]
def begAt (las : List La) (picks : List Bool) (k : Nat) : Bool := if (lat las k).init = 2 then picks.getD (twos las k) false else decide ((lat las k).init = 1)
def beg (las : List La) (picks : List Bool) (k : Nat) : List Bool := (List.range k).map (begAt las picks)
theorem beg_succ (las : List La) (picks : List Bool) (k : Nat) : beg las picks (k + 1) = beg las picks k ++ [begAt las picks k] := by
  unfold beg
  rw [List.range_succ, List.map_append]
  rfl
theorem beg_len (las : List La) (picks : List Bool) (k : Nat) : (beg las picks k).length = k := by simp [beg]
def startC (c : Ci) (picks : List Bool) : List Bool × Int := if (checkO c).1 = 0 then (beg c.las picks c.las.length, 0) else ([], 1)
set_option maxHeartbeats 4000000 in
theorem start_ct (c : Ci) (picks : List Bool) (hr : CRoom c) (hgo : GOk c.gts) (hlo : LOk c.las) : Ct Tryd.prog Hy 38 [.ag (cE c), .sl (bl picks)] [.sl (bl (startC c picks).1), .i .i64 (startC c picks).2] := by
  have hmb := smayBe_ct Hy c hr hgo hlo
  by_cases h0 : (checkO c).1 = 0
  · rw [show startC c picks = (beg c.las picks c.las.length, 0) from if_pos h0]
    rw [decide_eq_true h0] at hmb
    have hmc := ((checkO_iff c).1 h0).1
    have hl2 : c.las.length ≤ 200 := by
      have := hmc.lim
      unfold limitB at this
      simp only [Bool.or_eq_false_iff, decide_eq_false_iff_not] at this
      omega
    obtain ⟨ins, outs, las, gts⟩ := c
    simp only [cE] at hmb hl2 ⊢
    refine ct_of (cls := _root_.id) tt_ok follows_ Tryd.func38 rfl (by decide) (Nat.le_of_ble_eq_true rfl) ?_
    rw [show Tryd.f38.ntmps = 42 from rfl, s0_nf]
    simp only [List.zipIdx_cons, List.zipIdx_nil, List.map_cons, List.map_nil, Nat.reduceAdd]
    repeat' first | refine c_seq ?_ | refine c_reg' rfl fun K E hK hE => ?_ | (refine r_opN fun κ η => ?_; simp only [go_sem, simprocAttr, Nat.le_refl]; refine η _ ?_; clear η κ) | (refine r_nil (hK _ ?_); clear hE hK E K) | refine q_seq ?_
    refine r_opN fun κ η => ?_; simp only [go_sem, simprocAttr, Nat.le_refl]; refine ⟨_, hmb, ?_⟩; simp only [go_sem, simprocAttr, Nat.le_refl]; refine η _ ?_; clear η κ
    repeat' first | refine c_seq ?_ | refine c_block ?_ | refine c_reg' rfl fun K E hK hE => ?_ | (refine r_opN fun κ η => ?_; simp only [go_sem, simprocAttr, Nat.le_refl]; (repeat refine ⟨by omega, ?_⟩); refine η _ ?_; clear η κ) | (refine r_nil (hK _ ?_); clear hE hK E K) | refine q_seq ?_ | refine c_cond false rfl (fun h => (by cases h)) fun _ => ?_ | refine c_skip ?_
    refine c_loop (fun m s' => ∃ k : Nat, m = las.length - k ∧ k ≤ las.length ∧ ∃ F G0 yy, s' = nf 42 F G0 [(1, .t (.sl ((bl picks).drop (twos las k)))), (2, .ptr 2 1 0), (6, yy), (14, .t (.sl (lsR las))), (15, .t (.i .i64 las.length)), (16, .t (.i .i64 k))] [] ∧ G0 2 = ⟨1, .cells 26 [.t (.sl (sR ins)), .t (.sl (sR outs)), .t (.sl (lsR las)), .t (.sl (gsR gts))]⟩ ∧ Acc G0 39 4 1 (bl (beg las picks k)) yy) las.length ?_ ?_
    · exact ⟨0, by omega, by omega, _, _, _, nf_of rfl ⟨rfl, rfl, rfl, rfl, rfl, rfl, trivial⟩ trivial, rfl, .inl ⟨rfl, rfl⟩⟩
    rintro m s' ⟨k, rfl, hk, F, G0, yy, rfl, b2, hy⟩
    by_cases hd : k < las.length
    · have hd' : ((k : Int) < las.length) = True := eq_true (by omega)
      obtain ⟨x, hx⟩ : ∃ x, las[k]? = some x := ⟨_, List.getElem?_eq_getElem hd⟩
      have hx' := lsR_get hx
      have htw := twos_succ hx
      have hst : bl (beg las picks (k + 1)) = bl (beg las picks k) ++ [[.b (begAt las picks k)]] := by rw [beg_succ, bl_app]; rfl
      have hsa : begAt las picks k = if x.init = 2 then picks.getD (twos las k) false else decide (x.init = 1) := by unfold begAt; rw [lat_get hx]
      have hlen : (bl (beg las picks k)).length ≤ 1000 := by rw [bl_len, beg_len]; omega
      generalize begAt las picks k = v at hst hsa
      generalize bl (beg las picks k) = rw0 at hst hlen hy
      have hbd := bl_drop picks (twos las k)
      by_cases c2 : x.init = 2
      · have c2' := eq_true c2
        have c1' : (x.init = 1) = False := eq_false (by omega)
        rw [if_pos c2] at htw hsa
        by_cases c3 : twos las k < picks.length
        · obtain ⟨p, hp⟩ : ∃ p, picks[twos las k]? = some p := ⟨_, List.getElem?_eq_getElem c3⟩
          obtain rfl : v = p := by rw [hsa, List.getD_eq_getElem?_getD, hp]; rfl
          have hpos : ((0 : Int) < ((picks.length - twos las k : Nat) : Int)) = True := eq_true (by omega)
          have hg0 : ((bl picks).drop (twos las k))[0]? = some [.b v] := by rw [List.getElem?_drop]; exact bl_get hp
          have hdl : ((bl picks).drop (twos las k)).length = picks.length - twos las k := by rw [List.length_drop, bl_len]
          have hdd : ((bl picks).drop (twos las k)).drop 1 = (bl picks).drop (twos las (k + 1)) := by rw [List.drop_drop, htw]
          have hdt : ((bl picks).drop (twos las (k + 1))).take (((picks.length - twos las k : Nat) : Int) - 1).toNat = (bl picks).drop (twos las (k + 1)) := by
            rw [List.take_of_length_le]
            rw [List.length_drop, bl_len, htw]
            omega
          have hd1 : ∀ e ∈ (bl picks).drop (twos las k), e.length = 1 := fun e he => bl_one picks e (List.mem_of_mem_drop he)
          generalize (bl picks).drop (twos las k) = dr at *
          generalize hdr2 : (bl picks).drop (twos las (k + 1)) = dr2 at *
          rcases hy with ⟨y0, rfl⟩ | ⟨q', rfl, hr2⟩
          · rw [y0] at hst
            repeat' first | refine c_seq ?_ | refine c_block ?_ | refine c_reg' rfl fun K E hK hE => ?_ | refine c_draw' rfl (by kernel_rfl) fun K E hK hE => ?_ | ((first | refine r_opN fun κ η => ?_ | refine r_opG rfl fun κ η => ?_ | refine d_opN (by kernel_rfl) fun κ η => ?_); simp only [go_sem, simprocAttr, Nat.le_refl, b2, hd', hx', c1', c2', decide_true, decide_false, hdl, hpos, hg0, hdt, hdd]; (repeat refine ⟨by omega, ?_⟩); refine η _ ?_; clear η κ) | (refine r_nil (hK _ ?_); clear hE hK E K) | refine q_seq ?_ | refine c_cond true rfl (fun _ => ?_) (fun h => (by cases h)) | (refine d_nil (hK _ ?_); clear hE hK E K) | refine q_blk ?_ | refine c_skip ?_ | refine q_lpN ?_
            exact ⟨las.length - (k + 1), by omega, k + 1, rfl, by omega, _, _, _, nf_of rfl ⟨by rw [hdr2]; rfl, rfl, rfl, rfl, rfl, rfl, trivial⟩ trivial, b2, .inr ⟨_, rfl, by rw [hst]; rfl⟩⟩
          · repeat' first | refine c_seq ?_ | refine c_block ?_ | refine c_reg' rfl fun K E hK hE => ?_ | refine c_draw' rfl (by kernel_rfl) fun K E hK hE => ?_ | ((first | refine r_opN fun κ η => ?_ | refine r_opG rfl fun κ η => ?_ | refine d_opN (by kernel_rfl) fun κ η => ?_); simp only [go_sem, simprocAttr, Nat.le_refl, b2, hd', hx', c1', c2', decide_true, decide_false, hdl, hpos, hg0, hdt, hdd, hr2]; (repeat refine ⟨by omega, ?_⟩); refine η _ ?_; clear η κ) | (refine r_nil (hK _ ?_); clear hE hK E K) | refine q_seq ?_ | refine c_cond true rfl (fun _ => ?_) (fun h => (by cases h)) | (refine d_nil (hK _ ?_); clear hE hK E K) | refine q_blk ?_ | refine c_skip ?_ | refine q_lpN ?_
            exact ⟨las.length - (k + 1), by omega, k + 1, rfl, by omega, _, _, _, nf_of rfl ⟨by rw [hdr2]; rfl, rfl, rfl, rfl, rfl, rfl, trivial⟩ trivial, b2, .inr ⟨_, rfl, by rw [hst]; rfl⟩⟩
        · have hdl : ((bl picks).drop (twos las k)).length = 0 := by rw [List.length_drop, bl_len]; omega
          have hse : (bl picks).drop (twos las k) = (bl picks).drop (twos las (k + 1)) := by
            rw [List.drop_eq_nil_of_le (by rw [bl_len]; omega), List.drop_eq_nil_of_le (by rw [bl_len]; omega)]
          obtain rfl : v = false := by rw [hsa, List.getD_eq_getElem?_getD, List.getElem?_eq_none (by omega)]; rfl
          generalize (bl picks).drop (twos las k) = dr at *
          rcases hy with ⟨y0, rfl⟩ | ⟨q', rfl, hr2⟩
          · rw [y0] at hst
            repeat' first | refine c_seq ?_ | refine c_block ?_ | refine c_reg' rfl fun K E hK hE => ?_ | ((first | refine r_opN fun κ η => ?_ | refine r_opG rfl fun κ η => ?_); simp only [go_sem, simprocAttr, Nat.le_refl, b2, hd', hx', c1', c2', decide_true, decide_false, hdl, Int.natCast_zero]; (repeat refine ⟨by omega, ?_⟩); refine η _ ?_; clear η κ) | (refine r_nil (hK _ ?_); clear hE hK E K) | refine q_seq ?_ | refine c_cond true rfl (fun _ => ?_) (fun h => (by cases h)) | refine c_cond false rfl (fun h => (by cases h)) fun _ => ?_ | refine q_blk ?_ | refine c_skip ?_ | refine q_lpN ?_
            exact ⟨las.length - (k + 1), by omega, k + 1, rfl, by omega, _, _, _, nf_of rfl ⟨by rw [← hse]; rfl, rfl, rfl, rfl, rfl, rfl, trivial⟩ trivial, b2, .inr ⟨_, rfl, by rw [hst]; rfl⟩⟩
          · repeat' first | refine c_seq ?_ | refine c_block ?_ | refine c_reg' rfl fun K E hK hE => ?_ | ((first | refine r_opN fun κ η => ?_ | refine r_opG rfl fun κ η => ?_); simp only [go_sem, simprocAttr, Nat.le_refl, b2, hd', hx', c1', c2', decide_true, decide_false, hdl, Int.natCast_zero, hr2]; (repeat refine ⟨by omega, ?_⟩); refine η _ ?_; clear η κ) | (refine r_nil (hK _ ?_); clear hE hK E K) | refine q_seq ?_ | refine c_cond true rfl (fun _ => ?_) (fun h => (by cases h)) | refine c_cond false rfl (fun h => (by cases h)) fun _ => ?_ | refine q_blk ?_ | refine c_skip ?_ | refine q_lpN ?_
            exact ⟨las.length - (k + 1), by omega, k + 1, rfl, by omega, _, _, _, nf_of rfl ⟨by rw [← hse]; rfl, rfl, rfl, rfl, rfl, rfl, trivial⟩ trivial, b2, .inr ⟨_, rfl, by rw [hst]; rfl⟩⟩
      · have c2' := eq_false c2
        rw [if_neg c2] at htw hsa
        replace htw : twos las (k + 1) = twos las k := htw
        generalize hdr : (bl picks).drop (twos las k) = dr at *
        subst hsa
        rcases hy with ⟨y0, rfl⟩ | ⟨q', rfl, hr2⟩
        · rw [y0] at hst
          repeat' first | refine c_seq ?_ | refine c_block ?_ | refine c_reg' rfl fun K E hK hE => ?_ | ((first | refine r_opN fun κ η => ?_ | refine r_opG rfl fun κ η => ?_); simp only [go_sem, simprocAttr, Nat.le_refl, b2, hd', hx', c2', decide_true, decide_false]; (repeat refine ⟨by omega, ?_⟩); refine η _ ?_; clear η κ) | (refine r_nil (hK _ ?_); clear hE hK E K) | refine q_seq ?_ | refine c_cond true rfl (fun _ => ?_) (fun h => (by cases h)) | refine c_cond false rfl (fun h => (by cases h)) fun _ => ?_ | refine q_blk ?_ | refine c_skip ?_ | refine q_lpN ?_
          exact ⟨las.length - (k + 1), by omega, k + 1, rfl, by omega, _, _, _, nf_of rfl ⟨by rw [htw, hdr]; rfl, rfl, rfl, rfl, rfl, rfl, trivial⟩ trivial, b2, .inr ⟨_, rfl, by rw [hst]; rfl⟩⟩
        · repeat' first | refine c_seq ?_ | refine c_block ?_ | refine c_reg' rfl fun K E hK hE => ?_ | ((first | refine r_opN fun κ η => ?_ | refine r_opG rfl fun κ η => ?_); simp only [go_sem, simprocAttr, Nat.le_refl, b2, hd', hx', c2', decide_true, decide_false, hr2]; (repeat refine ⟨by omega, ?_⟩); refine η _ ?_; clear η κ) | (refine r_nil (hK _ ?_); clear hE hK E K) | refine q_seq ?_ | refine c_cond true rfl (fun _ => ?_) (fun h => (by cases h)) | refine c_cond false rfl (fun h => (by cases h)) fun _ => ?_ | refine q_blk ?_ | refine c_skip ?_ | refine q_lpN ?_
          exact ⟨las.length - (k + 1), by omega, k + 1, rfl, by omega, _, _, _, nf_of rfl ⟨by rw [htw, hdr]; rfl, rfl, rfl, rfl, rfl, rfl, trivial⟩ trivial, b2, .inr ⟨_, rfl, by rw [hst]; rfl⟩⟩
    have hd' : ((k : Int) < las.length) = False := eq_false (by omega)
    obtain rfl : k = las.length := by omega
    rcases hy with ⟨y0, rfl⟩ | ⟨q', rfl, hr2⟩
    · rw [y0]
      repeat' first | refine c_seq ?_ | refine c_reg' rfl fun K E hK hE => ?_ | (refine r_opN fun κ η => ?_; simp only [go_sem, simprocAttr, Nat.le_refl, b2, hd']; refine η _ ?_; clear η κ) | (refine r_nil (hK _ ?_); clear hE hK E K) | refine q_seq ?_ | refine c_cond false rfl (fun h => (by cases h)) fun _ => ?_ | refine c_exit ?_ | refine c_ret ?_ | refine q_seqE ?_ | refine q_blkHit ?_ | refine q_lpE ?_ | (refine q_ret ?_; refine q_r1 ?_; simp only [go_sem, simprocAttr, Nat.le_refl, b2, hd'])
    · repeat' first | refine c_seq ?_ | refine c_reg' rfl fun K E hK hE => ?_ | (refine r_opN fun κ η => ?_; simp only [go_sem, simprocAttr, Nat.le_refl, b2, hd', hr2]; refine η _ ?_; clear η κ) | (refine r_nil (hK _ ?_); clear hE hK E K) | refine q_seq ?_ | refine c_cond false rfl (fun h => (by cases h)) fun _ => ?_ | refine c_exit ?_ | refine c_ret ?_ | refine q_seqE ?_ | refine q_blkHit ?_ | refine q_lpE ?_ | (refine q_ret ?_; refine q_r1 ?_; simp only [go_sem, simprocAttr, Nat.le_refl, b2, hd', hr2])
  · rw [show startC c picks = ([], 1) from if_neg h0]
    rw [decide_eq_false h0] at hmb
    obtain ⟨ins, outs, las, gts⟩ := c
    simp only [cE] at hmb ⊢
    refine ct_of (cls := _root_.id) tt_ok follows_ Tryd.func38 rfl (by decide) (Nat.le_of_ble_eq_true rfl) ?_
    rw [show Tryd.f38.ntmps = 42 from rfl, s0_nf]
    simp only [List.zipIdx_cons, List.zipIdx_nil, List.map_cons, List.map_nil, Nat.reduceAdd]
    repeat' first | refine c_seq ?_ | refine c_reg' rfl fun K E hK hE => ?_ | (refine r_opN fun κ η => ?_; simp only [go_sem, simprocAttr, Nat.le_refl]; refine η _ ?_; clear η κ) | (refine r_nil (hK _ ?_); clear hE hK E K) | refine q_seq ?_
    refine r_opN fun κ η => ?_; simp only [go_sem, simprocAttr, Nat.le_refl]; refine ⟨_, hmb, ?_⟩; simp only [go_sem, simprocAttr, Nat.le_refl]; refine η _ ?_; clear η κ
    repeat' first | refine c_seq ?_ | refine c_reg' rfl fun K E hK hE => ?_ | (refine r_opN fun κ η => ?_; simp only [go_sem, simprocAttr, Nat.le_refl]; refine η _ ?_; clear η κ) | (refine r_nil (hK _ ?_); clear hE hK E K) | refine q_seq ?_ | refine c_cond true rfl (fun _ => ?_) (fun h => (by cases h)) | refine c_ret ?_ | refine q_seqR ?_ | (refine q_ret ?_; refine q_r1 ?_; simp only [go_sem, simprocAttr, Nat.le_refl])
    rfl
end Go.Proofs.YtbhoeanfnbkenaaDoor
