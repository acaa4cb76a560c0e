import Derived.Test.YtbhoeanfnbkenaaDoorY2
namespace Go.Proofs.YtbhoeanfnbkenaaDoor
open Go.RowKit Go.WideMaps
set_option maxRecDepth 100000
set_option linter.unusedSimpArgs false
variable (Hy : World → Prop)
attribute [local irreducible] runM runD cwp seqQ blkQ lpQ retQ asQ bdQ bdY retP endR preD retD
def NtM (E : List (Ky × A)) (l : List ByteArray) (k : Nat) : Prop := ∀ (i : Nat) s, i < k → l[i]? = some s → getM E (.s s) = some (.t (.i .i64 i))
theorem NtM.put {E : List (Ky × A)} {l : List ByteArray} {k : Nat} {s : ByteArray} (h : NtM E l k) (hn : l.Nodup) (hs : l[k]? = some s) : NtM (putM E (.s s) (.t (.i .i64 k))) l (k + 1) := fun i t hi ht => by
  rw [getM_putM]
  by_cases e : i = k
  · subst e
    rw [hs] at ht
    cases ht
    rw [if_pos rfl]
  · rw [if_neg (fun e2 => e ((List.getElem?_inj (List.getElem?_eq_some_iff.1 ht).1 hn).1 (by rw [ht, hs]; injection e2 with e2; rw [e2]))), h i t (by omega) ht]
def mA (c : Ci) (g : Nat) : List A := [.t (.sl (sR c.ins)), .t (.sl (sR c.outs)), .t (.sl (lsR c.las)), .t (.sl (gsR c.gts)), .row 6307 g, .t (.sl (iR (castL (sortG c.gts).1)))]
def Mch (c : Ci) (g : Nat) (o : Nat → O) : Prop := ∃ E, o 6307 = ⟨g, .map .str E⟩ ∧ NtM E (netsC c) (netsC c).length
set_option maxHeartbeats 4000000 in
theorem newMachine_cm (c : Ci) (hm : MayC c) (hr : CRoom c) (hgo : GOk c.gts) (hlo : LOk c.las) (o : Nat → O) : Cm Tryd.prog Hy 76 [.ag (cA c)] o fun rs o' => ∃ g, rs = [.ag (mA c g)] ∧ Mch c g o' ∧ FrI 6300 6400 o o' := by
  have hM := mlawP
  have hks : ksOf tt 9 = .str := rfl
  have hne := nets_ct Hy c (mok_of ((chk_iff c).2 hm)).fit
  have hst := sort_ct Hy c hr hgo hlo
  rw [show sortC c = ((sortG c.gts).1, neverG c.gts) from if_pos ((chk_iff c).2 hm)] at hst
  have hsz := nets_size ((chk_iff c).2 hm)
  have hnd := hm.nts
  have hnl := nets_le c
  obtain ⟨⟨h1, _⟩, _⟩ := may_200 hm
  unfold Mch mA
  generalize castL (sortG c.gts).1 = L at *
  generalize neverG c.gts = NV at *
  generalize netsC c = N at *
  obtain ⟨ins, outs, las, gts⟩ := c
  simp only [cE, cA] at hne hst hnl h1 ⊢
  refine cm_of (cls := fun d => 6300 + d) tt_ok follows_ Tryd.func76 rfl (by decide) (Nat.le_of_ble_eq_true rfl) ?_
  rw [show Tryd.f76.ntmps = 29 from rfl, s0_nf]
  simp only [List.zipIdx_cons, List.zipIdx_nil, List.map_cons, List.map_nil, Nat.reduceAdd]
  repeat' first | refine c_seq ?_ | refine c_reg' rfl fun K E hK hE => ?_ | (refine r_opN fun κ η => ?_; simp only [go_sem, simprocAttr, Nat.le_refl, hks]; (repeat refine ⟨by omega, ?_⟩); refine η _ ?_; clear η κ) | (refine r_nil (hK _ ?_); clear hE hK E K) | refine q_seq ?_
  refine r_opN fun κ η => ?_; simp only [go_sem, simprocAttr, Nat.le_refl]; refine ⟨_, hne, ?_⟩; simp only [go_sem, simprocAttr, Nat.le_refl]; refine η _ ?_; clear η κ
  repeat' first | refine c_block ?_ | (refine r_opN fun κ η => ?_; simp only [go_sem, simprocAttr, Nat.le_refl]; refine η _ ?_; clear η κ) | (refine r_nil (hK _ ?_); clear hE hK E K) | refine q_seq ?_
  refine c_loop (fun m s' => ∃ k : Nat, m = N.length - k ∧ k ≤ N.length ∧ ∃ F G0 E, s' = nf 29 F G0 [(1, .ptr 6301 ((o 6301).gen + 1) 0), (2, .ptr 6302 ((o 6302).gen + 1) 0), (3, .ptr 6303 ((o 6303).gen + 1) 0), (10, .t (.sl (sR N))), (11, .t (.i .i64 N.length)), (12, .t (.i .i64 k))] [] ∧ G0 6307 = ⟨(o 6307).gen + 1, .map .str E⟩ ∧ NtM E N k ∧ G0 6301 = ⟨(o 6301).gen + 1, .cells 26 [.t (.sl (sR ins)), .t (.sl (sR outs)), .t (.sl (lsR las)), .t (.sl (gsR gts))]⟩ ∧ G0 6302 = ⟨(o 6302).gen + 1, .cells 104 [.nilS, .nilS, .nilS, .nilS, .t .nmp, .nilS]⟩ ∧ G0 6303 = ⟨(o 6303).gen + 1, .cells 104 [.t (.sl (sR ins)), .t (.sl (sR outs)), .t (.sl (lsR las)), .t (.sl (gsR gts)), .row 6307 ((o 6307).gen + 1), .nilS]⟩ ∧ FrI 6300 6400 o G0) N.length ?_ ?_
  · exact ⟨0, by omega, by omega, _, _, _, nf_of rfl ⟨rfl, rfl, rfl, rfl, rfl, rfl, trivial⟩ trivial, rfl, fun i s hi => absurd hi (Nat.not_lt_zero i), rfl, rfl, rfl, frI_nf rfl⟩
  rintro m s' ⟨k, rfl, hk, F, G0, E, rfl, g7, hE, g1, g2, g3, hfr⟩
  by_cases hd : k < N.length
  · have hd' : ((k : Int) < N.length) = True := eq_true (by omega)
    obtain ⟨s, hs⟩ : ∃ s, N[k]? = some s := ⟨_, List.getElem?_eq_getElem hd⟩
    have hs' := sR_get hs
    have hz := hsz s (List.mem_of_getElem? hs)
    have hE2 := hE.put hnd hs
    generalize hpu : putM E (.s s) (.t (.i .i64 k)) = E2 at hE2
    repeat' first | refine c_seq ?_ | refine c_block ?_ | refine c_reg' rfl fun K E hK hE => ?_ | (refine r_opN fun κ η => ?_; simp only [go_sem, simprocAttr, Nat.le_refl, hd', hs', g3, g7, hks, Ky.ok, hpu]; (repeat refine ⟨by omega, ?_⟩); refine η _ ?_; clear η κ) | (refine r_nil (hK _ ?_); clear hE hK E K) | refine q_seq ?_ | refine c_cond true rfl (fun _ => ?_) (fun h => (by cases h)) | refine q_blk ?_ | refine c_skip ?_ | refine q_lpN ?_
    exact ⟨N.length - (k + 1), by omega, k + 1, rfl, by omega, _, _, E2, nf_of rfl ⟨rfl, rfl, rfl, rfl, rfl, rfl, trivial⟩ trivial, rfl, hE2, g1, g2, g3, hfr.trans (frI_nf rfl)⟩
  have hd' : ((k : Int) < N.length) = False := eq_false (by omega)
  obtain rfl : k = N.length := by omega
  repeat' first | refine c_seq ?_ | refine c_reg' rfl fun K E hK hE => ?_ | (refine r_opN fun κ η => ?_; simp only [go_sem, simprocAttr, Nat.le_refl, hd', g1]; refine η _ ?_; clear η κ) | (refine r_nil (hK _ ?_); clear hE hK E K) | refine q_seq ?_ | refine c_cond false rfl (fun h => (by cases h)) fun _ => ?_ | refine c_exit ?_ | refine q_seqE ?_ | refine q_blkHit ?_ | refine q_lpE ?_
  refine r_opN fun κ η => ?_; simp only [go_sem, simprocAttr, Nat.le_refl]; refine ⟨_, hst, ?_⟩; simp only [go_sem, simprocAttr, Nat.le_refl]; refine η _ ?_; clear η κ
  repeat' first | refine c_seq ?_ | refine c_reg' rfl fun K E hK hE => ?_ | (refine r_opN fun κ η => ?_; simp only [go_sem, simprocAttr, Nat.le_refl, g2, g3]; (repeat refine ⟨by omega, ?_⟩); refine η _ ?_; clear η κ) | (refine r_nil (hK _ ?_); clear hE hK E K) | refine q_seq ?_ | refine c_ret ?_ | (refine q_ret ?_; refine q_rc ?_; simp only [go_sem, simprocAttr, Nat.le_refl, g2, g3])
  exact ⟨_, rfl, ⟨_, g7, hE⟩, hfr.trans (frI_nf rfl)⟩
end Go.Proofs.YtbhoeanfnbkenaaDoor
