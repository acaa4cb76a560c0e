import Derived.Test.YtbhoeanfnbkenaaDoorR42
namespace Go.Proofs.YtbhoeanfnbkenaaDoor
open Go.RowKit
set_option maxRecDepth 100000
set_option linter.unusedSimpArgs false
variable (Hy : World → Prop)
attribute [local irreducible] runM runD cwp seqQ blkQ lpQ retQ asQ bdQ bdY retP endR preD retD
def nmsO (gs : List Gt) (l : List Nat) : List ByteArray := l.map fun k => (gat gs k).name
theorem nmsO_snoc {gs : List Gt} {l : List Nat} {i k : Nat} (h : l[i]? = some k) : nmsO gs (l.take (i + 1)) = nmsO gs (l.take i) ++ [(gat gs k).name] := by
  unfold nmsO
  rw [List.take_add_one, h, List.map_append]
  rfl
theorem nmsO_mem {gs : List Gt} (hu : Uniq gs) {l : List Nat} (hl : ∀ x ∈ l, x < gs.length) {k : Nat} (hk : k < gs.length) : (gat gs k).name ∈ nmsO gs l ↔ k ∈ l := by
  unfold nmsO
  rw [List.mem_map]
  exact ⟨fun ⟨j, hj, e⟩ => hu j k (hl j hj) hk e ▸ hj, fun h => ⟨k, h, rfl⟩⟩
theorem gat_some2 {gs : List Gt} {k : Nat} (h : k < gs.length) : (gsR gs)[k]? = some [.s (gat gs k).name, .i .i64 (gat gs k).op, .sl (sR (gat gs k).ins), .sl (rR (gat gs k).rows), .b (gat gs k).off] := gsR_get (gat_get h)
/-- does one of some names never come -/
def wv (nv l : List ByteArray) (k : Nat) : Bool := (l.take k).any fun s => decide (s ∈ nv)
theorem wv_succ {nv l : List ByteArray} {k : Nat} {s : ByteArray} (h : l[k]? = some s) : wv nv l (k + 1) = (wv nv l k || decide (s ∈ nv)) := by
  unfold wv
  rw [List.take_add_one, h, List.any_append]
  simp
set_option maxHeartbeats 16000000 in
theorem orderWaits_ct (c : Ci) (hr : CRoom c) (hgo : GOk c.gts) (hlo : LOk c.las) : Ct Tryd.prog Hy 5 [.ag (cE c)] [.b true] := by
  have hw := works07_ct Hy
  have hfe := few_ct Hy c
  have hck := check_ct Hy c hr hgo hlo
  cases hl : fewC c with
  | false =>
    rw [hl] at hfe
    obtain ⟨ins, outs, las, gts⟩ := c
    simp only [cE] at hfe hck ⊢
    refine ct_of (cls := _root_.id) tt_ok follows_ Tryd.func5 rfl (by decide) (Nat.le_of_ble_eq_true rfl) ?_
    rw [show Tryd.f5.ntmps = 169 from rfl, s0_nf]
    simp only [List.zipIdx_cons, List.zipIdx_nil, List.map_cons, List.map_nil, Nat.reduceAdd]
    repeat' first | refine c_seq ?_ | refine c_reg' rfl fun K E hK hE => ?_ | (refine r_opN fun κ η => ?_; simp only [go_sem, simprocAttr, Nat.le_refl]; refine η _ ?_; clear η κ) | (refine r_nil (hK _ ?_); clear hE hK E K) | refine q_seq ?_
    refine r_opN fun κ η => ?_; simp only [go_sem, simprocAttr, Nat.le_refl]; refine ⟨_, hw, ?_⟩; simp only [go_sem, simprocAttr, Nat.le_refl]; refine η _ ?_; clear η κ
    repeat' first | refine c_seq ?_ | refine c_reg' rfl fun K E hK hE => ?_ | (refine r_opN fun κ η => ?_; simp only [go_sem, simprocAttr, Nat.le_refl]; refine η _ ?_; clear η κ) | (refine r_nil (hK _ ?_); clear hE hK E K) | refine q_seq ?_ | refine c_cond false rfl (fun h => (by cases h)) fun _ => ?_ | refine c_skip ?_
    refine r_opN fun κ η => ?_; simp only [go_sem, simprocAttr, Nat.le_refl]; refine ⟨_, hfe, ?_⟩; simp only [go_sem, simprocAttr, Nat.le_refl]; refine η _ ?_; clear η κ
    repeat' first | refine c_seq ?_ | refine c_reg' rfl fun K E hK hE => ?_ | (refine r_opN fun κ η => ?_; simp only [go_sem, simprocAttr, Nat.le_refl]; refine η _ ?_; clear η κ) | (refine r_nil (hK _ ?_); clear hE hK E K) | refine q_seq ?_
    refine r_opN fun κ η => ?_; simp only [go_sem, simprocAttr, Nat.le_refl]; refine ⟨_, hck, ?_⟩; simp only [go_sem, simprocAttr, Nat.le_refl]; refine η _ ?_; clear η κ
    repeat' first | refine c_seq ?_ | refine c_reg' rfl fun K E hK hE => ?_ | ((first | refine r_opN fun κ η => ?_ | refine r_opG rfl fun κ η => ?_); simp only [go_sem, simprocAttr, Nat.le_refl]; refine η _ ?_; clear η κ) | (refine r_nil (hK _ ?_); clear hE hK E K) | refine q_seq ?_ | refine c_cond true rfl (fun _ => ?_) (fun h => (by cases h)) | refine c_ret ?_ | refine q_seqR ?_ | (refine q_ret ?_; refine q_r1 ?_; simp only [go_sem, simprocAttr, Nat.le_refl])
  | true =>
    rw [hl] at hfe
    by_cases h0 : (checkC c).1 = 0
    rotate_left
    · have h0' := eq_false h0
      obtain ⟨ins, outs, las, gts⟩ := c
      simp only [cE] at hfe hck ⊢
      refine ct_of (cls := _root_.id) tt_ok follows_ Tryd.func5 rfl (by decide) (Nat.le_of_ble_eq_true rfl) ?_
      rw [show Tryd.f5.ntmps = 169 from rfl, s0_nf]
      simp only [List.zipIdx_cons, List.zipIdx_nil, List.map_cons, List.map_nil, Nat.reduceAdd]
      repeat' first | refine c_seq ?_ | refine c_reg' rfl fun K E hK hE => ?_ | (refine r_opN fun κ η => ?_; simp only [go_sem, simprocAttr, Nat.le_refl]; refine η _ ?_; clear η κ) | (refine r_nil (hK _ ?_); clear hE hK E K) | refine q_seq ?_
      refine r_opN fun κ η => ?_; simp only [go_sem, simprocAttr, Nat.le_refl]; refine ⟨_, hw, ?_⟩; simp only [go_sem, simprocAttr, Nat.le_refl]; refine η _ ?_; clear η κ
      repeat' first | refine c_seq ?_ | refine c_reg' rfl fun K E hK hE => ?_ | (refine r_opN fun κ η => ?_; simp only [go_sem, simprocAttr, Nat.le_refl]; refine η _ ?_; clear η κ) | (refine r_nil (hK _ ?_); clear hE hK E K) | refine q_seq ?_ | refine c_cond false rfl (fun h => (by cases h)) fun _ => ?_ | refine c_skip ?_
      refine r_opN fun κ η => ?_; simp only [go_sem, simprocAttr, Nat.le_refl]; refine ⟨_, hfe, ?_⟩; simp only [go_sem, simprocAttr, Nat.le_refl]; refine η _ ?_; clear η κ
      repeat' first | refine c_seq ?_ | refine c_reg' rfl fun K E hK hE => ?_ | (refine r_opN fun κ η => ?_; simp only [go_sem, simprocAttr, Nat.le_refl]; refine η _ ?_; clear η κ) | (refine r_nil (hK _ ?_); clear hE hK E K) | refine q_seq ?_
      refine r_opN fun κ η => ?_; simp only [go_sem, simprocAttr, Nat.le_refl]; refine ⟨_, hck, ?_⟩; simp only [go_sem, simprocAttr, Nat.le_refl]; refine η _ ?_; clear η κ
      repeat' first | refine c_seq ?_ | refine c_reg' rfl fun K E hK hE => ?_ | ((first | refine r_opN fun κ η => ?_ | refine r_opG rfl fun κ η => ?_); simp only [go_sem, simprocAttr, Nat.le_refl, h0']; refine η _ ?_; clear η κ) | (refine r_nil (hK _ ?_); clear hE hK E K) | refine q_seq ?_ | refine c_cond true rfl (fun _ => ?_) (fun h => (by cases h)) | refine c_ret ?_ | refine q_seqR ?_ | (refine q_ret ?_; refine q_r1 ?_; simp only [go_sem, simprocAttr, Nat.le_refl, h0'])
    have h0' := eq_true h0
    have hf := few_get hl
    have hmay := (chk_iff c).1 h0
    have hm := hmay.may
    have hu := may_uniq hm
    have ho := sortG_ok c.gts
    have hst := sort_ct Hy c hr hgo hlo
    rw [show sortC c = ((sortG c.gts).1, neverG c.gts) from if_pos h0] at hst
    have hnl := never_len c.gts
    have hpl := fun s => place_ct Hy c s ⟨by have := hf.ins; omega, by have := hf.outs; omega, by have := hf.las; omega, by have := hf.gts; omega⟩
    have hplb := fun s => pl_lo c s
    have hpg := fun s => pl_get (c := c) (s := s)
    have hnw := fun k (hk : k < c.gts.length) => never_waits (gs := c.gts) hk
    have hnm := neverG_mem c.gts
    have q1 := hf.ins
    have q2 := hf.las
    have q3 := hf.gts
    have q4 : ∀ k, k < c.gts.length → (gat c.gts k).ins.length ≤ 12 := fun k hk => (hf.tg _ (gat_ins hk)).2.2.1
    have hsin := fun i k => ho.ins (i := i) (k := k)
    have hfr := fun i k => ho.fresh (i := i) (k := k)
    have hnn : ∀ k, k < c.gts.length → ((gat c.gts k).name ∈ neverG c.gts ↔ k ∉ (sortG c.gts).1) := fun k hk => (hnm _).trans ⟨fun ⟨j, hj, a, e⟩ => hu j k hj hk e ▸ a, fun h => ⟨k, hk, h, rfl⟩⟩
    have hlt := ho.lt
    have hhs := fun l s (h : l.length ≤ 1000) => rHas_ct Hy l s (by omega)
    rw [nets_le] at hplb
    clear hmay hm ho hnm hf hl
    generalize plC c = PL at *
    generalize neverG c.gts = NV at *
    generalize (sortG c.gts).1 = L at *
    obtain ⟨ins, outs, las, gts⟩ := c
    simp only [cE] at hfe hck hst hpl hplb hpg hnw q1 q2 q3 q4 hsin hnn hlt hnl hu ⊢
    have hLc : (castL L).length = L.length := castL_len L
    refine ct_of (cls := _root_.id) tt_ok follows_ Tryd.func5 rfl (by decide) (Nat.le_of_ble_eq_true rfl) ?_
    rw [show Tryd.f5.ntmps = 169 from rfl, s0_nf]
    simp only [List.zipIdx_cons, List.zipIdx_nil, List.map_cons, List.map_nil, Nat.reduceAdd]
    repeat' first | refine c_seq ?_ | refine c_reg' rfl fun K E hK hE => ?_ | (refine r_opN fun κ η => ?_; simp only [go_sem, simprocAttr, Nat.le_refl]; refine η _ ?_; clear η κ) | (refine r_nil (hK _ ?_); clear hE hK E K) | refine q_seq ?_
    refine r_opN fun κ η => ?_; simp only [go_sem, simprocAttr, Nat.le_refl]; refine ⟨_, hw, ?_⟩; simp only [go_sem, simprocAttr, Nat.le_refl]; refine η _ ?_; clear η κ
    repeat' first | refine c_seq ?_ | refine c_reg' rfl fun K E hK hE => ?_ | (refine r_opN fun κ η => ?_; simp only [go_sem, simprocAttr, Nat.le_refl]; refine η _ ?_; clear η κ) | (refine r_nil (hK _ ?_); clear hE hK E K) | refine q_seq ?_ | refine c_cond false rfl (fun h => (by cases h)) fun _ => ?_ | refine c_skip ?_
    refine r_opN fun κ η => ?_; simp only [go_sem, simprocAttr, Nat.le_refl]; refine ⟨_, hfe, ?_⟩; simp only [go_sem, simprocAttr, Nat.le_refl]; refine η _ ?_; clear η κ
    repeat' first | refine c_seq ?_ | refine c_reg' rfl fun K E hK hE => ?_ | (refine r_opN fun κ η => ?_; simp only [go_sem, simprocAttr, Nat.le_refl]; refine η _ ?_; clear η κ) | (refine r_nil (hK _ ?_); clear hE hK E K) | refine q_seq ?_
    refine r_opN fun κ η => ?_; simp only [go_sem, simprocAttr, Nat.le_refl]; refine ⟨_, hck, ?_⟩; simp only [go_sem, simprocAttr, Nat.le_refl]; refine η _ ?_; clear η κ
    repeat' first | refine c_seq ?_ | refine c_reg' rfl fun K E hK hE => ?_ | ((first | refine r_opN fun κ η => ?_ | refine r_opG rfl fun κ η => ?_); simp only [go_sem, simprocAttr, Nat.le_refl, h0']; refine η _ ?_; clear η κ) | (refine r_nil (hK _ ?_); clear hE hK E K) | refine q_seq ?_ | refine c_cond false rfl (fun h => (by cases h)) fun _ => ?_ | refine c_skip ?_
    refine r_opN fun κ η => ?_; simp only [go_sem, simprocAttr, Nat.le_refl]; refine ⟨_, hst, ?_⟩; simp only [go_sem, simprocAttr, Nat.le_refl]; refine η _ ?_; clear η κ
    repeat' first | refine c_seq ?_ | refine c_block ?_ | refine c_reg' rfl fun K E hK hE => ?_ | (refine r_opN fun κ η => ?_; simp only [go_sem, simprocAttr, Nat.le_refl]; refine η _ ?_; clear η κ) | (refine r_nil (hK _ ?_); clear hE hK E K) | refine q_seq ?_
    refine c_loop (fun m s' => ∃ i : Nat, m = L.length - i ∧ i ≤ L.length ∧ ∃ F G0 yy, s' = nf 169 F G0 [(1, .ptr 1 1 0), (3, .t (.b true)), (7, .t (.sl (iR (castL L)))), (8, .t (.sl (sR NV))), (9, yy), (10, .t (.i .i64 i))] [] ∧ G0 1 = ⟨1, .cells 26 [.t (.sl (sR ins)), .t (.sl (sR outs)), .t (.sl (lsR las)), .t (.sl (gsR gts))]⟩ ∧ Acc G0 108 9 1 (sR (nmsO gts (L.take i))) yy) L.length ?_ ?_
    · exact ⟨0, by omega, by omega, _, _, _, nf_of rfl ⟨rfl, rfl, rfl, rfl, rfl, rfl, trivial⟩ trivial, rfl, .inl ⟨rfl, rfl⟩⟩
    rintro m s' ⟨i, rfl, hi, F, G0, yy, rfl, b1, hy⟩
    have hsl : (nmsO gts (L.take i)).length ≤ i := by
      unfold nmsO
      rw [List.length_map, List.length_take]
      omega
    by_cases hdi : i < L.length
    · have hd := hdi
      have hd' : ((i : Int) < L.length) = True := eq_true (by omega)
      obtain ⟨k, hk⟩ : ∃ k, L[i]? = some k := ⟨_, List.getElem?_eq_getElem hd⟩
      have hkl := hlt k (List.mem_of_getElem? hk)
      have hk' := castL_get hk
      have hg' := gat_some2 hkl
      have hk0 : ((k : Int) < 0) = False := eq_false (by omega)
      have hk1 : ((gts.length : Int) ≤ (k : Int)) = False := eq_false (by omega)
      have hsn := nmsO_snoc (gs := gts) hk
      have hq4 := q4 k hkl
      have hself : decide ((gat gts k).name ∈ nmsO gts (L.take i)) = false := decide_eq_false fun h => hfr i k hk ((nmsO_mem hu (fun x hx => hlt x (List.mem_of_mem_take hx)) hkl).1 h)
      have hh2 := hhs (nmsO gts (L.take i)) (gat gts k).name (by omega)
      rw [hself] at hh2
      have hins : ∀ s ∈ (gat gts k).ins, ((ins.length : Int) + las.length ≤ PL s) → decide (s ∈ nmsO gts (L.take i)) = true := fun s hs h => by
        obtain ⟨j, hj, e, _⟩ := hpg s (by omega)
        refine decide_eq_true ?_
        rw [← e]
        exact (nmsO_mem hu (fun x hx => hlt x (List.mem_of_mem_take hx)) hj).2 (hsin i k hk hs hj e)
      have hh1 := fun s => hhs (nmsO gts (L.take i)) s (by omega)
      have hsR : sR (nmsO gts (L.take (i + 1))) = sR (nmsO gts (L.take i)) ++ [[.s (gat gts k).name]] := by rw [hsn, sR_app]; rfl
      have hsl2 : (sR (nmsO gts (L.take i))).length ≤ 1000 := by rw [sR_len]; omega
      generalize gat gts k = g at *
      repeat' first | refine c_seq ?_ | refine c_block ?_ | refine c_reg' rfl fun K E hK hE => ?_ | refine c_draw' rfl (by kernel_rfl) fun K E hK hE => ?_ | ((first | refine r_opN fun κ η => ?_ | refine d_opN (by kernel_rfl) fun κ η => ?_ | refine d_opG (by kernel_rfl) rfl fun κ η => ?_); simp only [go_sem, simprocAttr, Nat.le_refl, b1, hd', hk', hg', hk0, hk1]; (repeat refine ⟨by omega, ?_⟩); refine η _ ?_; clear η κ) | (refine r_nil (hK _ ?_); clear hE hK E K) | refine q_seq ?_ | refine c_cond true rfl (fun _ => ?_) (fun h => (by cases h)) | refine c_cond false rfl (fun h => (by cases h)) fun _ => ?_ | (refine d_nil (hK _ ?_); clear hE hK E K) | refine c_skip ?_
      refine c_loop (fun m s' => ∃ p : Nat, m = g.ins.length - p ∧ p ≤ g.ins.length ∧ ∃ F G1 gg, s' = nf 169 F G1 [(1, .ptr 1 1 0), (3, .t (.b true)), (7, .t (.sl (iR (castL L)))), (8, .t (.sl (sR NV))), (9, yy), (10, .t (.i .i64 i)), (11, .ptr 11 gg 0), (12, .t (.i .i64 p))] [] ∧ G1 1 = ⟨1, .cells 26 [.t (.sl (sR ins)), .t (.sl (sR outs)), .t (.sl (lsR las)), .t (.sl (gsR gts))]⟩ ∧ G1 11 = ⟨gg, .cells 45 [.t (.s g.name), .t (.i .i64 g.op), .t (.sl (sR g.ins)), .t (.sl (rR g.rows)), .t (.b g.off)]⟩ ∧ Acc G1 108 9 1 (sR (nmsO gts (L.take i))) yy) g.ins.length ?_ ?_
      · exact ⟨0, by omega, by omega, _, _, _, nf_of rfl ⟨rfl, rfl, rfl, rfl, rfl, rfl, rfl, rfl, trivial⟩ trivial, b1, rfl, hy⟩
      clear b1 hy hd hd'
      rintro m s' ⟨p, rfl, hp, F, G1, gg, rfl, b1, b2, hy⟩
      by_cases hd : p < g.ins.length
      · have hd' : ((p : Int) < g.ins.length) = True := eq_true (by omega)
        obtain ⟨s, hs⟩ : ∃ s, g.ins[p]? = some s := ⟨_, List.getElem?_eq_getElem hd⟩
        have hs' := sR_get hs
        have hps := hpl s
        have hpb := hplb s
        have hhi := hins s (List.mem_of_getElem? hs)
        have hh1s := hh1 s
        by_cases hc : (ins.length : Int) + las.length ≤ PL s
        · have hc' := eq_true hc
          rw [hhi hc] at hh1s
          rcases hy with ⟨y0, rfl⟩ | ⟨q', rfl, hr2⟩
          · rw [y0] at hh1s
            repeat' first | refine c_seq ?_ | refine c_block ?_ | refine c_reg' rfl fun K E hK hE => ?_ | refine c_draw' rfl (by kernel_rfl) fun K E hK hE => ?_ | ((first | refine r_opN fun κ η => ?_ | refine d_opN (by kernel_rfl) fun κ η => ?_); simp only [go_sem, simprocAttr, Nat.le_refl, b1, b2, hd', hs']; (repeat refine ⟨by omega, ?_⟩); refine η _ ?_; clear η κ) | (refine r_nil (hK _ ?_); clear hE hK E K) | refine q_seq ?_ | refine c_cond true rfl (fun _ => ?_) (fun h => (by cases h)) | refine c_skip ?_
            refine d_opN (by kernel_rfl) fun κ η => ?_; simp only [go_sem, simprocAttr, Nat.le_refl]; refine ⟨_, hps, ?_⟩; simp only [go_sem, simprocAttr, Nat.le_refl]; refine η _ ?_; clear η κ
            repeat' ((first | refine d_opN (by kernel_rfl) fun κ η => ?_ | refine d_opG (by kernel_rfl) rfl fun κ η => ?_); simp only [go_sem, simprocAttr, Nat.le_refl, b1, b2, hd', hs', hc']; (repeat refine ⟨by omega, ?_⟩); refine η _ ?_; clear η κ)
            refine d_opG (by kernel_rfl) rfl fun κ η => ?_; simp only [go_sem, simprocAttr, Nat.le_refl]; refine ⟨_, hh1s, ?_⟩; simp only [go_sem, simprocAttr, Nat.le_refl]; refine η _ ?_; clear η κ
            repeat' first | refine c_reg' rfl fun K E hK hE => ?_ | ((first | refine r_opN fun κ η => ?_ | refine d_opN (by kernel_rfl) fun κ η => ?_ | refine d_opG (by kernel_rfl) rfl fun κ η => ?_); simp only [go_sem, simprocAttr, Nat.le_refl]; (repeat refine ⟨by omega, ?_⟩); refine η _ ?_; clear η κ) | (refine r_nil (hK _ ?_); clear hE hK E K) | refine q_seq ?_ | refine c_cond false rfl (fun h => (by cases h)) fun _ => ?_ | (refine d_nil (hK _ ?_); clear hE hK E K) | refine q_blk ?_ | refine c_skip ?_ | refine q_lpN ?_
            exact ⟨g.ins.length - (p + 1), by omega, p + 1, rfl, by omega, _, _, _, nf_of rfl ⟨rfl, rfl, rfl, rfl, rfl, rfl, rfl, rfl, trivial⟩ trivial, b1, b2, .inl ⟨y0, rfl⟩⟩
          · repeat' first | refine c_seq ?_ | refine c_block ?_ | refine c_reg' rfl fun K E hK hE => ?_ | refine c_draw' rfl (by kernel_rfl) fun K E hK hE => ?_ | ((first | refine r_opN fun κ η => ?_ | refine d_opN (by kernel_rfl) fun κ η => ?_); simp only [go_sem, simprocAttr, Nat.le_refl, b1, b2, hd', hs']; (repeat refine ⟨by omega, ?_⟩); refine η _ ?_; clear η κ) | (refine r_nil (hK _ ?_); clear hE hK E K) | refine q_seq ?_ | refine c_cond true rfl (fun _ => ?_) (fun h => (by cases h)) | refine c_skip ?_
            refine d_opN (by kernel_rfl) fun κ η => ?_; simp only [go_sem, simprocAttr, Nat.le_refl]; refine ⟨_, hps, ?_⟩; simp only [go_sem, simprocAttr, Nat.le_refl]; refine η _ ?_; clear η κ
            repeat' ((first | refine d_opN (by kernel_rfl) fun κ η => ?_ | refine d_opG (by kernel_rfl) rfl fun κ η => ?_); simp only [go_sem, simprocAttr, Nat.le_refl, b1, b2, hd', hs', hc']; (repeat refine ⟨by omega, ?_⟩); refine η _ ?_; clear η κ)
            refine d_opG (by kernel_rfl) rfl fun κ η => ?_; simp only [go_sem, simprocAttr, Nat.le_refl, hr2]; refine ⟨_, hh1s, ?_⟩; simp only [go_sem, simprocAttr, Nat.le_refl, hr2]; refine η _ ?_; clear η κ
            repeat' first | refine c_reg' rfl fun K E hK hE => ?_ | ((first | refine r_opN fun κ η => ?_ | refine d_opN (by kernel_rfl) fun κ η => ?_ | refine d_opG (by kernel_rfl) rfl fun κ η => ?_); simp only [go_sem, simprocAttr, Nat.le_refl]; (repeat refine ⟨by omega, ?_⟩); refine η _ ?_; clear η κ) | (refine r_nil (hK _ ?_); clear hE hK E K) | refine q_seq ?_ | refine c_cond false rfl (fun h => (by cases h)) fun _ => ?_ | (refine d_nil (hK _ ?_); clear hE hK E K) | refine q_blk ?_ | refine c_skip ?_ | refine q_lpN ?_
            exact ⟨g.ins.length - (p + 1), by omega, p + 1, rfl, by omega, _, _, _, nf_of rfl ⟨rfl, rfl, rfl, rfl, rfl, rfl, rfl, rfl, trivial⟩ trivial, b1, b2, .inr ⟨_, rfl, hr2⟩⟩
        · have hc' := eq_false hc
          repeat' first | refine c_seq ?_ | refine c_block ?_ | refine c_reg' rfl fun K E hK hE => ?_ | refine c_draw' rfl (by kernel_rfl) fun K E hK hE => ?_ | ((first | refine r_opN fun κ η => ?_ | refine d_opN (by kernel_rfl) fun κ η => ?_); simp only [go_sem, simprocAttr, Nat.le_refl, b1, b2, hd', hs']; (repeat refine ⟨by omega, ?_⟩); refine η _ ?_; clear η κ) | (refine r_nil (hK _ ?_); clear hE hK E K) | refine q_seq ?_ | refine c_cond true rfl (fun _ => ?_) (fun h => (by cases h)) | refine c_skip ?_
          refine d_opN (by kernel_rfl) fun κ η => ?_; simp only [go_sem, simprocAttr, Nat.le_refl]; refine ⟨_, hps, ?_⟩; simp only [go_sem, simprocAttr, Nat.le_refl]; refine η _ ?_; clear η κ
          repeat' first | refine c_reg' rfl fun K E hK hE => ?_ | ((first | refine r_opN fun κ η => ?_ | refine d_opN (by kernel_rfl) fun κ η => ?_ | refine d_opG (by kernel_rfl) rfl fun κ η => ?_); simp only [go_sem, simprocAttr, Nat.le_refl, b1, b2, hd', hs', hc']; (repeat refine ⟨by omega, ?_⟩); refine η _ ?_; clear η κ) | (refine r_nil (hK _ ?_); clear hE hK E K) | refine q_seq ?_ | refine c_cond false rfl (fun h => (by cases h)) fun _ => ?_ | (refine d_nil (hK _ ?_); clear hE hK E K) | refine q_blk ?_ | refine c_skip ?_ | refine q_lpN ?_
          exact ⟨g.ins.length - (p + 1), by omega, p + 1, rfl, by omega, _, _, _, nf_of rfl ⟨rfl, rfl, rfl, rfl, rfl, rfl, rfl, rfl, trivial⟩ trivial, b1, b2, hy⟩
      have hd' : ((p : Int) < g.ins.length) = False := eq_false (by omega)
      rcases hy with ⟨y0, rfl⟩ | ⟨q', rfl, hr2⟩
      · rw [y0] at hh2 hsR
        repeat' first | refine c_seq ?_ | refine c_reg' rfl fun K E hK hE => ?_ | (refine r_opN fun κ η => ?_; simp only [go_sem, simprocAttr, Nat.le_refl, b1, b2, hd']; (repeat refine ⟨by omega, ?_⟩); refine η _ ?_; clear η κ) | (refine r_nil (hK _ ?_); clear hE hK E K) | refine q_seq ?_ | refine c_cond false rfl (fun h => (by cases h)) fun _ => ?_ | refine c_exit ?_ | refine q_seqE ?_ | refine q_blkHit ?_ | refine q_lpE ?_
        refine r_opN fun κ η => ?_; simp only [go_sem, simprocAttr, Nat.le_refl]; refine ⟨_, hh2, ?_⟩; simp only [go_sem, simprocAttr, Nat.le_refl]; refine η _ ?_; clear η κ
        repeat' first | refine c_reg' rfl fun K E hK hE => ?_ | (refine r_opN fun κ η => ?_; simp only [go_sem, simprocAttr, Nat.le_refl, b1, b2]; (repeat refine ⟨by omega, ?_⟩); refine η _ ?_; clear η κ) | (refine r_nil (hK _ ?_); clear hE hK E K) | refine q_seq ?_ | refine c_cond false rfl (fun h => (by cases h)) fun _ => ?_ | refine q_blk ?_ | refine c_skip ?_ | refine q_lpN ?_
        exact ⟨L.length - (i + 1), by omega, i + 1, rfl, by omega, _, _, _, nf_of rfl ⟨rfl, rfl, rfl, rfl, rfl, rfl, trivial⟩ trivial, b1, .inr ⟨_, rfl, by rw [hsR]; rfl⟩⟩
      · generalize sR (nmsO gts (L.take i)) = rw0 at hh2 hsR hr2 hsl2
        repeat' first | refine c_seq ?_ | refine c_reg' rfl fun K E hK hE => ?_ | (refine r_opN fun κ η => ?_; simp only [go_sem, simprocAttr, Nat.le_refl, b1, b2, hd']; (repeat refine ⟨by omega, ?_⟩); refine η _ ?_; clear η κ) | (refine r_nil (hK _ ?_); clear hE hK E K) | refine q_seq ?_ | refine c_cond false rfl (fun h => (by cases h)) fun _ => ?_ | refine c_exit ?_ | refine q_seqE ?_ | refine q_blkHit ?_ | refine q_lpE ?_
        refine r_opN fun κ η => ?_; simp only [go_sem, simprocAttr, Nat.le_refl, hr2]; refine ⟨_, hh2, ?_⟩; simp only [go_sem, simprocAttr, Nat.le_refl, hr2]; refine η _ ?_; clear η κ
        repeat' first | refine c_reg' rfl fun K E hK hE => ?_ | (refine r_opN fun κ η => ?_; simp only [go_sem, simprocAttr, Nat.le_refl, b1, b2, hr2]; (repeat refine ⟨by omega, ?_⟩); refine η _ ?_; clear η κ) | (refine r_nil (hK _ ?_); clear hE hK E K) | refine q_seq ?_ | refine c_cond false rfl (fun h => (by cases h)) fun _ => ?_ | refine q_blk ?_ | refine c_skip ?_ | refine q_lpN ?_
        exact ⟨L.length - (i + 1), by omega, i + 1, rfl, by omega, _, _, _, nf_of rfl ⟨rfl, rfl, rfl, rfl, rfl, rfl, trivial⟩ trivial, b1, .inr ⟨_, rfl, by rw [hsR]; rfl⟩⟩
    have hd : ¬ i < L.length := hdi
    have hd' : ((i : Int) < L.length) = False := eq_false (by omega)
    rw [List.take_of_length_le (by omega)] at hy hsl
    have hss : ∀ k, k < gts.length → ((gat gts k).name ∈ nmsO gts L ↔ k ∈ L) := fun k hk => nmsO_mem hu hlt hk
    have hh1 := fun s => hhs (nmsO gts L) s (by omega)
    generalize nmsO gts L = SN at *
    repeat' first | refine c_seq ?_ | refine c_block ?_ | refine c_reg' rfl fun K E hK hE => ?_ | (refine r_opN fun κ η => ?_; simp only [go_sem, simprocAttr, Nat.le_refl, b1, hd']; refine η _ ?_; clear η κ) | (refine r_nil (hK _ ?_); clear hE hK E K) | refine q_seq ?_ | refine c_cond false rfl (fun h => (by cases h)) fun _ => ?_ | refine c_exit ?_ | refine q_seqE ?_ | refine q_blkHit ?_ | refine q_lpE ?_
    refine c_loop (fun m s' => ∃ i : Nat, m = gts.length - i ∧ i ≤ gts.length ∧ ∃ F G0, s' = nf 169 F G0 [(1, .ptr 1 1 0), (3, .t (.b true)), (7, .t (.sl (iR (castL L)))), (8, .t (.sl (sR NV))), (9, yy), (13, .t (.i .i64 i))] [] ∧ G0 1 = ⟨1, .cells 26 [.t (.sl (sR ins)), .t (.sl (sR outs)), .t (.sl (lsR las)), .t (.sl (gsR gts))]⟩ ∧ Acc G0 108 9 1 (sR SN) yy) gts.length ?_ ?_
    · exact ⟨0, by omega, by omega, _, _, nf_of rfl ⟨rfl, rfl, rfl, rfl, rfl, rfl, trivial⟩ trivial, b1, hy⟩
    clear b1 hy hd hd' hi
    rintro m s' ⟨i, rfl, hi, F, G0, rfl, b1, hy⟩
    by_cases hdi : i < gts.length
    · have hd := hdi
      have hd' : ((i : Int) < gts.length) = True := eq_true (by omega)
      have hg' := gat_some2 hd
      have hq4 := q4 i hd
      have a1 := hnn i hd
      have a2 := hss i hd
      have a3 := hnw i hd
      have hn := hhs NV (gat gts i).name (by omega)
      have hs := hh1 (gat gts i).name
      have hni := fun s => hhs NV s (by omega)
      generalize gat gts i = g at *
      have hwv : decide (g.name ∈ NV) = true → wv NV g.ins g.ins.length = true := fun h => by
        obtain ⟨s, h1, h2⟩ := a3 (a1.1 (of_decide_eq_true h))
        unfold wv
        rw [List.take_length, List.any_eq_true]
        exact ⟨s, h1, decide_eq_true h2⟩
      have hne : decide (g.name ∈ SN) = !decide (g.name ∈ NV) := by
        rw [Bool.eq_iff_iff, Bool.not_eq_true', decide_eq_true_eq, decide_eq_false_iff_not, a1, a2, Decidable.not_not]
      rw [hne] at hs
      repeat' first | refine c_seq ?_ | refine c_block ?_ | refine c_reg' rfl fun K E hK hE => ?_ | (refine r_opN fun κ η => ?_; simp only [go_sem, simprocAttr, Nat.le_refl, b1, hd', hg']; (repeat refine ⟨by omega, ?_⟩); refine η _ ?_; clear η κ) | (refine r_nil (hK _ ?_); clear hE hK E K) | refine q_seq ?_ | refine c_cond true rfl (fun _ => ?_) (fun h => (by cases h)) | refine c_skip ?_
      refine c_loop (fun m s' => ∃ p : Nat, m = g.ins.length - p ∧ p ≤ g.ins.length ∧ ∃ F G1 gg, s' = nf 169 F G1 [(1, .ptr 1 1 0), (3, .t (.b true)), (7, .t (.sl (iR (castL L)))), (8, .t (.sl (sR NV))), (9, yy), (13, .t (.i .i64 i)), (14, .ptr 14 gg 0), (15, .t (.b (wv NV g.ins p))), (16, .t (.i .i64 p))] [] ∧ G1 1 = ⟨1, .cells 26 [.t (.sl (sR ins)), .t (.sl (sR outs)), .t (.sl (lsR las)), .t (.sl (gsR gts))]⟩ ∧ G1 14 = ⟨gg, .cells 45 [.t (.s g.name), .t (.i .i64 g.op), .t (.sl (sR g.ins)), .t (.sl (rR g.rows)), .t (.b g.off)]⟩ ∧ Acc G1 108 9 1 (sR SN) yy) g.ins.length ?_ ?_
      · exact ⟨0, by omega, by omega, _, _, _, nf_of rfl ⟨rfl, rfl, rfl, rfl, rfl, rfl, rfl, rfl, rfl, trivial⟩ trivial, b1, rfl, hy⟩
      clear b1 hy hd hd'
      rintro m s' ⟨p, rfl, hp, F, G1, gg, rfl, b1, b2, hy⟩
      by_cases hd : p < g.ins.length
      · have hd' : ((p : Int) < g.ins.length) = True := eq_true (by omega)
        obtain ⟨s, hsx⟩ : ∃ s, g.ins[p]? = some s := ⟨_, List.getElem?_eq_getElem hd⟩
        have hs' := sR_get hsx
        have hwn := wv_succ (nv := NV) hsx
        have hnis := hni s
        cases hwp : wv NV g.ins p with
        | true =>
          rw [hwp, Bool.true_or] at hwn
          repeat' first | refine c_seq ?_ | refine c_block ?_ | refine c_reg' rfl fun K E hK hE => ?_ | ((first | refine r_opN fun κ η => ?_ | refine r_opG rfl fun κ η => ?_); simp only [go_sem, simprocAttr, Nat.le_refl, b1, b2, hd', hs']; (repeat refine ⟨by omega, ?_⟩); refine η _ ?_; clear η κ) | (refine r_nil (hK _ ?_); clear hE hK E K) | refine q_seq ?_ | refine c_cond true rfl (fun _ => ?_) (fun h => (by cases h)) | refine q_blk ?_ | refine c_skip ?_ | refine q_lpN ?_
          exact ⟨g.ins.length - (p + 1), by omega, p + 1, rfl, by omega, _, _, _, nf_of rfl ⟨rfl, rfl, rfl, rfl, rfl, rfl, rfl, by rw [hwn]; rfl, rfl, trivial⟩ trivial, b1, b2, hy⟩
        | false =>
          rw [hwp, Bool.false_or] at hwn
          repeat' first | refine c_seq ?_ | refine c_block ?_ | refine c_reg' rfl fun K E hK hE => ?_ | ((first | refine r_opN fun κ η => ?_ | refine r_opG rfl fun κ η => ?_); simp only [go_sem, simprocAttr, Nat.le_refl, b1, b2, hd', hs']; (repeat refine ⟨by omega, ?_⟩); refine η _ ?_; clear η κ) | (refine r_nil (hK _ ?_); clear hE hK E K) | refine q_seq ?_ | refine c_cond true rfl (fun _ => ?_) (fun h => (by cases h)) | refine c_skip ?_
          refine r_opG rfl fun κ η => ?_; simp only [go_sem, simprocAttr, Nat.le_refl]; refine ⟨_, hnis, ?_⟩; simp only [go_sem, simprocAttr, Nat.le_refl]; refine η _ ?_; clear η κ
          repeat' first | refine c_reg' rfl fun K E hK hE => ?_ | (refine r_opN fun κ η => ?_; simp only [go_sem, simprocAttr, Nat.le_refl]; (repeat refine ⟨by omega, ?_⟩); refine η _ ?_; clear η κ) | (refine r_nil (hK _ ?_); clear hE hK E K) | refine q_seq ?_ | refine q_blk ?_ | refine q_lpN ?_
          exact ⟨g.ins.length - (p + 1), by omega, p + 1, rfl, by omega, _, _, _, nf_of rfl ⟨rfl, rfl, rfl, rfl, rfl, rfl, rfl, by rw [hwn]; rfl, rfl, trivial⟩ trivial, b1, b2, hy⟩
      have hd' : ((p : Int) < g.ins.length) = False := eq_false (by omega)
      obtain rfl : p = g.ins.length := by omega
      have hbt : (false == true) = false := rfl
      have hbf : (true == false) = false := rfl
      cases hwp : wv NV g.ins g.ins.length with
      | true =>
        generalize decide (g.name ∈ NV) = nb at *
        cases nb <;> rcases hy with ⟨y0, rfl⟩ | ⟨q', rfl, hr2⟩
        · rw [y0] at hs
          repeat' first | refine c_seq ?_ | refine c_reg' rfl fun K E hK hE => ?_ | refine c_draw' rfl (by kernel_rfl) fun K E hK hE => ?_ | ((first | refine r_opN fun κ η => ?_ | refine d_opN (by kernel_rfl) fun κ η => ?_); simp only [go_sem, simprocAttr, Nat.le_refl, b1, b2, hd']; (repeat refine ⟨by omega, ?_⟩); refine η _ ?_; clear η κ) | (refine r_nil (hK _ ?_); clear hE hK E K) | refine q_seq ?_ | refine c_cond false rfl (fun h => (by cases h)) fun _ => ?_ | refine c_exit ?_ | refine q_seqE ?_ | refine q_blkHit ?_ | refine q_lpE ?_
          refine d_opN (by kernel_rfl) fun κ η => ?_; simp only [go_sem, simprocAttr, Nat.le_refl]; refine ⟨_, hn, ?_⟩; simp only [go_sem, simprocAttr, Nat.le_refl]; refine η _ ?_; clear η κ
          repeat' (refine d_opN (by kernel_rfl) fun κ η => ?_; simp only [go_sem, simprocAttr, Nat.le_refl, b1, b2]; (repeat refine ⟨by omega, ?_⟩); refine η _ ?_; clear η κ)
          refine d_opN (by kernel_rfl) fun κ η => ?_; simp only [go_sem, simprocAttr, Nat.le_refl]; refine ⟨_, hs, ?_⟩; simp only [go_sem, simprocAttr, Nat.le_refl]; refine η _ ?_; clear η κ
          repeat' ((first | refine d_opN (by kernel_rfl) fun κ η => ?_ | refine d_opG (by kernel_rfl) rfl fun κ η => ?_); simp only [go_sem, simprocAttr, Nat.le_refl, b1, b2, hbt, hbf]; (repeat refine ⟨by omega, ?_⟩); refine η _ ?_; clear η κ)
          refine d_opG (by kernel_rfl) rfl fun κ η => ?_; simp only [go_sem, simprocAttr, Nat.le_refl]; refine ⟨_, hn, ?_⟩; simp only [go_sem, simprocAttr, Nat.le_refl]; refine η _ ?_; clear η κ
          repeat' first | refine c_reg' rfl fun K E hK hE => ?_ | ((first | refine r_opN fun κ η => ?_ | refine d_opN (by kernel_rfl) fun κ η => ?_ | refine d_opG (by kernel_rfl) rfl fun κ η => ?_); simp only [go_sem, simprocAttr, Nat.le_refl]; (repeat refine ⟨by omega, ?_⟩); refine η _ ?_; clear η κ) | (refine r_nil (hK _ ?_); clear hE hK E K) | refine q_seq ?_ | refine c_cond false rfl (fun h => (by cases h)) fun _ => ?_ | (refine d_nil (hK _ ?_); clear hE hK E K) | refine q_blk ?_ | refine c_skip ?_ | refine q_lpN ?_
          exact ⟨gts.length - (i + 1), by omega, i + 1, rfl, by omega, _, _, nf_of rfl ⟨rfl, rfl, rfl, rfl, rfl, rfl, trivial⟩ trivial, b1, .inl ⟨y0, rfl⟩⟩
        · repeat' first | refine c_seq ?_ | refine c_reg' rfl fun K E hK hE => ?_ | refine c_draw' rfl (by kernel_rfl) fun K E hK hE => ?_ | ((first | refine r_opN fun κ η => ?_ | refine d_opN (by kernel_rfl) fun κ η => ?_); simp only [go_sem, simprocAttr, Nat.le_refl, b1, b2, hd']; (repeat refine ⟨by omega, ?_⟩); refine η _ ?_; clear η κ) | (refine r_nil (hK _ ?_); clear hE hK E K) | refine q_seq ?_ | refine c_cond false rfl (fun h => (by cases h)) fun _ => ?_ | refine c_exit ?_ | refine q_seqE ?_ | refine q_blkHit ?_ | refine q_lpE ?_
          refine d_opN (by kernel_rfl) fun κ η => ?_; simp only [go_sem, simprocAttr, Nat.le_refl]; refine ⟨_, hn, ?_⟩; simp only [go_sem, simprocAttr, Nat.le_refl]; refine η _ ?_; clear η κ
          repeat' (refine d_opN (by kernel_rfl) fun κ η => ?_; simp only [go_sem, simprocAttr, Nat.le_refl, b1, b2]; (repeat refine ⟨by omega, ?_⟩); refine η _ ?_; clear η κ)
          refine d_opN (by kernel_rfl) fun κ η => ?_; simp only [go_sem, simprocAttr, Nat.le_refl, hr2]; refine ⟨_, hs, ?_⟩; simp only [go_sem, simprocAttr, Nat.le_refl, hr2]; refine η _ ?_; clear η κ
          repeat' ((first | refine d_opN (by kernel_rfl) fun κ η => ?_ | refine d_opG (by kernel_rfl) rfl fun κ η => ?_); simp only [go_sem, simprocAttr, Nat.le_refl, b1, b2, hbt, hbf]; (repeat refine ⟨by omega, ?_⟩); refine η _ ?_; clear η κ)
          refine d_opG (by kernel_rfl) rfl fun κ η => ?_; simp only [go_sem, simprocAttr, Nat.le_refl]; refine ⟨_, hn, ?_⟩; simp only [go_sem, simprocAttr, Nat.le_refl]; refine η _ ?_; clear η κ
          repeat' first | refine c_reg' rfl fun K E hK hE => ?_ | ((first | refine r_opN fun κ η => ?_ | refine d_opN (by kernel_rfl) fun κ η => ?_ | refine d_opG (by kernel_rfl) rfl fun κ η => ?_); simp only [go_sem, simprocAttr, Nat.le_refl]; (repeat refine ⟨by omega, ?_⟩); refine η _ ?_; clear η κ) | (refine r_nil (hK _ ?_); clear hE hK E K) | refine q_seq ?_ | refine c_cond false rfl (fun h => (by cases h)) fun _ => ?_ | (refine d_nil (hK _ ?_); clear hE hK E K) | refine q_blk ?_ | refine c_skip ?_ | refine q_lpN ?_
          exact ⟨gts.length - (i + 1), by omega, i + 1, rfl, by omega, _, _, nf_of rfl ⟨rfl, rfl, rfl, rfl, rfl, rfl, trivial⟩ trivial, b1, .inr ⟨_, rfl, hr2⟩⟩
        · rw [y0] at hs
          repeat' first | refine c_seq ?_ | refine c_reg' rfl fun K E hK hE => ?_ | refine c_draw' rfl (by kernel_rfl) fun K E hK hE => ?_ | ((first | refine r_opN fun κ η => ?_ | refine d_opN (by kernel_rfl) fun κ η => ?_); simp only [go_sem, simprocAttr, Nat.le_refl, b1, b2, hd']; (repeat refine ⟨by omega, ?_⟩); refine η _ ?_; clear η κ) | (refine r_nil (hK _ ?_); clear hE hK E K) | refine q_seq ?_ | refine c_cond false rfl (fun h => (by cases h)) fun _ => ?_ | refine c_exit ?_ | refine q_seqE ?_ | refine q_blkHit ?_ | refine q_lpE ?_
          refine d_opN (by kernel_rfl) fun κ η => ?_; simp only [go_sem, simprocAttr, Nat.le_refl]; refine ⟨_, hn, ?_⟩; simp only [go_sem, simprocAttr, Nat.le_refl]; refine η _ ?_; clear η κ
          repeat' (refine d_opN (by kernel_rfl) fun κ η => ?_; simp only [go_sem, simprocAttr, Nat.le_refl, b1, b2]; (repeat refine ⟨by omega, ?_⟩); refine η _ ?_; clear η κ)
          refine d_opN (by kernel_rfl) fun κ η => ?_; simp only [go_sem, simprocAttr, Nat.le_refl]; refine ⟨_, hs, ?_⟩; simp only [go_sem, simprocAttr, Nat.le_refl]; refine η _ ?_; clear η κ
          repeat' ((first | refine d_opN (by kernel_rfl) fun κ η => ?_ | refine d_opG (by kernel_rfl) rfl fun κ η => ?_); simp only [go_sem, simprocAttr, Nat.le_refl, b1, b2, hbt, hbf]; (repeat refine ⟨by omega, ?_⟩); refine η _ ?_; clear η κ)
          refine d_opG (by kernel_rfl) rfl fun κ η => ?_; simp only [go_sem, simprocAttr, Nat.le_refl]; refine ⟨_, hn, ?_⟩; simp only [go_sem, simprocAttr, Nat.le_refl]; refine η _ ?_; clear η κ
          repeat' first | refine c_reg' rfl fun K E hK hE => ?_ | ((first | refine r_opN fun κ η => ?_ | refine d_opN (by kernel_rfl) fun κ η => ?_ | refine d_opG (by kernel_rfl) rfl fun κ η => ?_); simp only [go_sem, simprocAttr, Nat.le_refl]; (repeat refine ⟨by omega, ?_⟩); refine η _ ?_; clear η κ) | (refine r_nil (hK _ ?_); clear hE hK E K) | refine q_seq ?_ | refine c_cond false rfl (fun h => (by cases h)) fun _ => ?_ | (refine d_nil (hK _ ?_); clear hE hK E K) | refine q_blk ?_ | refine c_skip ?_ | refine q_lpN ?_
          exact ⟨gts.length - (i + 1), by omega, i + 1, rfl, by omega, _, _, nf_of rfl ⟨rfl, rfl, rfl, rfl, rfl, rfl, trivial⟩ trivial, b1, .inl ⟨y0, rfl⟩⟩
        · repeat' first | refine c_seq ?_ | refine c_reg' rfl fun K E hK hE => ?_ | refine c_draw' rfl (by kernel_rfl) fun K E hK hE => ?_ | ((first | refine r_opN fun κ η => ?_ | refine d_opN (by kernel_rfl) fun κ η => ?_); simp only [go_sem, simprocAttr, Nat.le_refl, b1, b2, hd']; (repeat refine ⟨by omega, ?_⟩); refine η _ ?_; clear η κ) | (refine r_nil (hK _ ?_); clear hE hK E K) | refine q_seq ?_ | refine c_cond false rfl (fun h => (by cases h)) fun _ => ?_ | refine c_exit ?_ | refine q_seqE ?_ | refine q_blkHit ?_ | refine q_lpE ?_
          refine d_opN (by kernel_rfl) fun κ η => ?_; simp only [go_sem, simprocAttr, Nat.le_refl]; refine ⟨_, hn, ?_⟩; simp only [go_sem, simprocAttr, Nat.le_refl]; refine η _ ?_; clear η κ
          repeat' (refine d_opN (by kernel_rfl) fun κ η => ?_; simp only [go_sem, simprocAttr, Nat.le_refl, b1, b2]; (repeat refine ⟨by omega, ?_⟩); refine η _ ?_; clear η κ)
          refine d_opN (by kernel_rfl) fun κ η => ?_; simp only [go_sem, simprocAttr, Nat.le_refl, hr2]; refine ⟨_, hs, ?_⟩; simp only [go_sem, simprocAttr, Nat.le_refl, hr2]; refine η _ ?_; clear η κ
          repeat' ((first | refine d_opN (by kernel_rfl) fun κ η => ?_ | refine d_opG (by kernel_rfl) rfl fun κ η => ?_); simp only [go_sem, simprocAttr, Nat.le_refl, b1, b2, hbt, hbf]; (repeat refine ⟨by omega, ?_⟩); refine η _ ?_; clear η κ)
          refine d_opG (by kernel_rfl) rfl fun κ η => ?_; simp only [go_sem, simprocAttr, Nat.le_refl]; refine ⟨_, hn, ?_⟩; simp only [go_sem, simprocAttr, Nat.le_refl]; refine η _ ?_; clear η κ
          repeat' first | refine c_reg' rfl fun K E hK hE => ?_ | ((first | refine r_opN fun κ η => ?_ | refine d_opN (by kernel_rfl) fun κ η => ?_ | refine d_opG (by kernel_rfl) rfl fun κ η => ?_); simp only [go_sem, simprocAttr, Nat.le_refl]; (repeat refine ⟨by omega, ?_⟩); refine η _ ?_; clear η κ) | (refine r_nil (hK _ ?_); clear hE hK E K) | refine q_seq ?_ | refine c_cond false rfl (fun h => (by cases h)) fun _ => ?_ | (refine d_nil (hK _ ?_); clear hE hK E K) | refine q_blk ?_ | refine c_skip ?_ | refine q_lpN ?_
          exact ⟨gts.length - (i + 1), by omega, i + 1, rfl, by omega, _, _, nf_of rfl ⟨rfl, rfl, rfl, rfl, rfl, rfl, trivial⟩ trivial, b1, .inr ⟨_, rfl, hr2⟩⟩
      | false =>
        have hnb : decide (g.name ∈ NV) = false := by
          cases hb : decide (g.name ∈ NV) with
          | false => rfl
          | true => rw [hwv hb] at hwp; cases hwp
        rw [hnb] at hn hs
        rcases hy with ⟨y0, rfl⟩ | ⟨q', rfl, hr2⟩
        · rw [y0] at hs
          repeat' first | refine c_seq ?_ | refine c_reg' rfl fun K E hK hE => ?_ | refine c_draw' rfl (by kernel_rfl) fun K E hK hE => ?_ | ((first | refine r_opN fun κ η => ?_ | refine d_opN (by kernel_rfl) fun κ η => ?_); simp only [go_sem, simprocAttr, Nat.le_refl, b1, b2, hd']; (repeat refine ⟨by omega, ?_⟩); refine η _ ?_; clear η κ) | (refine r_nil (hK _ ?_); clear hE hK E K) | refine q_seq ?_ | refine c_cond false rfl (fun h => (by cases h)) fun _ => ?_ | refine c_exit ?_ | refine q_seqE ?_ | refine q_blkHit ?_ | refine q_lpE ?_
          refine d_opN (by kernel_rfl) fun κ η => ?_; simp only [go_sem, simprocAttr, Nat.le_refl]; refine ⟨_, hn, ?_⟩; simp only [go_sem, simprocAttr, Nat.le_refl]; refine η _ ?_; clear η κ
          repeat' (refine d_opN (by kernel_rfl) fun κ η => ?_; simp only [go_sem, simprocAttr, Nat.le_refl, b1, b2]; (repeat refine ⟨by omega, ?_⟩); refine η _ ?_; clear η κ)
          refine d_opN (by kernel_rfl) fun κ η => ?_; simp only [go_sem, simprocAttr, Nat.le_refl]; refine ⟨_, hs, ?_⟩; simp only [go_sem, simprocAttr, Nat.le_refl]; refine η _ ?_; clear η κ
          repeat' ((first | refine d_opN (by kernel_rfl) fun κ η => ?_ | refine d_opG (by kernel_rfl) rfl fun κ η => ?_); simp only [go_sem, simprocAttr, Nat.le_refl, b1, b2, hbt, hbf]; (repeat refine ⟨by omega, ?_⟩); refine η _ ?_; clear η κ)
          refine d_opG (by kernel_rfl) rfl fun κ η => ?_; simp only [go_sem, simprocAttr, Nat.le_refl]; refine ⟨_, hn, ?_⟩; simp only [go_sem, simprocAttr, Nat.le_refl]; refine η _ ?_; clear η κ
          repeat' first | refine c_reg' rfl fun K E hK hE => ?_ | ((first | refine r_opN fun κ η => ?_ | refine d_opN (by kernel_rfl) fun κ η => ?_ | refine d_opG (by kernel_rfl) rfl fun κ η => ?_); simp only [go_sem, simprocAttr, Nat.le_refl]; (repeat refine ⟨by omega, ?_⟩); refine η _ ?_; clear η κ) | (refine r_nil (hK _ ?_); clear hE hK E K) | refine q_seq ?_ | refine c_cond false rfl (fun h => (by cases h)) fun _ => ?_ | (refine d_nil (hK _ ?_); clear hE hK E K) | refine q_blk ?_ | refine c_skip ?_ | refine q_lpN ?_
          exact ⟨gts.length - (i + 1), by omega, i + 1, rfl, by omega, _, _, nf_of rfl ⟨rfl, rfl, rfl, rfl, rfl, rfl, trivial⟩ trivial, b1, .inl ⟨y0, rfl⟩⟩
        · repeat' first | refine c_seq ?_ | refine c_reg' rfl fun K E hK hE => ?_ | refine c_draw' rfl (by kernel_rfl) fun K E hK hE => ?_ | ((first | refine r_opN fun κ η => ?_ | refine d_opN (by kernel_rfl) fun κ η => ?_); simp only [go_sem, simprocAttr, Nat.le_refl, b1, b2, hd']; (repeat refine ⟨by omega, ?_⟩); refine η _ ?_; clear η κ) | (refine r_nil (hK _ ?_); clear hE hK E K) | refine q_seq ?_ | refine c_cond false rfl (fun h => (by cases h)) fun _ => ?_ | refine c_exit ?_ | refine q_seqE ?_ | refine q_blkHit ?_ | refine q_lpE ?_
          refine d_opN (by kernel_rfl) fun κ η => ?_; simp only [go_sem, simprocAttr, Nat.le_refl]; refine ⟨_, hn, ?_⟩; simp only [go_sem, simprocAttr, Nat.le_refl]; refine η _ ?_; clear η κ
          repeat' (refine d_opN (by kernel_rfl) fun κ η => ?_; simp only [go_sem, simprocAttr, Nat.le_refl, b1, b2]; (repeat refine ⟨by omega, ?_⟩); refine η _ ?_; clear η κ)
          refine d_opN (by kernel_rfl) fun κ η => ?_; simp only [go_sem, simprocAttr, Nat.le_refl, hr2]; refine ⟨_, hs, ?_⟩; simp only [go_sem, simprocAttr, Nat.le_refl, hr2]; refine η _ ?_; clear η κ
          repeat' ((first | refine d_opN (by kernel_rfl) fun κ η => ?_ | refine d_opG (by kernel_rfl) rfl fun κ η => ?_); simp only [go_sem, simprocAttr, Nat.le_refl, b1, b2, hbt, hbf]; (repeat refine ⟨by omega, ?_⟩); refine η _ ?_; clear η κ)
          refine d_opG (by kernel_rfl) rfl fun κ η => ?_; simp only [go_sem, simprocAttr, Nat.le_refl]; refine ⟨_, hn, ?_⟩; simp only [go_sem, simprocAttr, Nat.le_refl]; refine η _ ?_; clear η κ
          repeat' first | refine c_reg' rfl fun K E hK hE => ?_ | ((first | refine r_opN fun κ η => ?_ | refine d_opN (by kernel_rfl) fun κ η => ?_ | refine d_opG (by kernel_rfl) rfl fun κ η => ?_); simp only [go_sem, simprocAttr, Nat.le_refl]; (repeat refine ⟨by omega, ?_⟩); refine η _ ?_; clear η κ) | (refine r_nil (hK _ ?_); clear hE hK E K) | refine q_seq ?_ | refine c_cond false rfl (fun h => (by cases h)) fun _ => ?_ | (refine d_nil (hK _ ?_); clear hE hK E K) | refine q_blk ?_ | refine c_skip ?_ | refine q_lpN ?_
          exact ⟨gts.length - (i + 1), by omega, i + 1, rfl, by omega, _, _, nf_of rfl ⟨rfl, rfl, rfl, rfl, rfl, rfl, trivial⟩ trivial, b1, .inr ⟨_, rfl, hr2⟩⟩
    have hd' : ((i : Int) < gts.length) = False := eq_false (by omega)
    have hfin : ((L.length : Int) + NV.length = gts.length) = True := eq_true (by omega)
    repeat' first | refine c_seq ?_ | refine c_reg' rfl fun K E hK hE => ?_ | ((first | refine r_opN fun κ η => ?_ | refine r_opG rfl fun κ η => ?_); simp only [go_sem, simprocAttr, Nat.le_refl, b1, hd', hLc, hfin, decide_true]; (repeat refine ⟨by omega, ?_⟩); refine η _ ?_; clear η κ) | (refine r_nil (hK _ ?_); clear hE hK E K) | refine q_seq ?_ | refine c_cond false rfl (fun h => (by cases h)) fun _ => ?_ | refine c_exit ?_ | refine c_ret ?_ | refine q_seqE ?_ | refine q_blkHit ?_ | refine q_lpE ?_ | (refine q_ret ?_; refine q_r1 ?_; simp only [go_sem, simprocAttr, Nat.le_refl, b1, hd', hLc, hfin, decide_true])
end Go.Proofs.YtbhoeanfnbkenaaDoor
