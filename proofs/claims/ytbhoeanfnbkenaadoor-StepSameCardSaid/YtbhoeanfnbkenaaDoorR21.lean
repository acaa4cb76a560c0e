import Derived.Test.YtbhoeanfnbkenaaDoorR20
import Derived.Test.YtbhoeanfnbkenaaDoorR18
namespace Go.Proofs.YtbhoeanfnbkenaaDoor
open Go.RowKit Go.WideMaps
set_option maxRecDepth 100000
set_option linter.unusedSimpArgs false
variable (Hy : World → Prop)
attribute [local irreducible] runM runD cwp seqQ blkQ lpQ retQ asQ bdQ bdY retP endR preD retD
theorem mlawL : MLaw Tryd.prog tt 121 9 22 where
  und := Tryd.underlying121
  keyed := Go.Maps.string_keyed Tryd.underlying9
  key := fun ky hk => key_str hk
  zero := ⟨.slice none 0 0, fun w => by
    obtain ⟨i, z, i1, _, _, i4, _⟩ := (tt_ok 22 _ rfl).info
    have e : Tryd.prog.info? 22 = some i := i1
    have hz : (Tryd.prog.info? 22).bind (·.zero) = some (.slice none 0 0) := by kernel_rfl
    rw [e, Option.bind_some] at hz
    simp [zeroValue, run_info e, hz], fun w D o ι => .nilS⟩
structure MOk (c : Ci) : Prop extends COk c where
  sin : ∀ s ∈ c.ins, s.size ≤ 1000000
  sla : ∀ x ∈ c.las, x.name.size ≤ 1000000 ∧ x.next.size ≤ 1000000
  may : May c
  n2 : (netsC c).length ≤ 200
def LVal (G : Nat → O) (n : Nat) (v : A) (l : List ByteArray) : Prop := (v = .nilS ∧ l = []) ∨ v = .t (.sl (sR l)) ∨ ∃ k g, k < n ∧ v = .row (wid k) g ∧ G (wid k) = ⟨g, .row 9 1 (sR l)⟩
theorem LVal.mono {G G' : Nat → O} {n n' : Nat} {v : A} {l : List ByteArray} (h : LVal G n v l) (hn : n ≤ n') (hG : ∀ k, k < n → G' (wid k) = G (wid k)) : LVal G' n' v l := by
  rcases h with h | h | ⟨k, g, hk, h1, h2⟩
  · exact .inl h
  · exact .inr (.inl h)
  · exact .inr (.inr ⟨k, g, by omega, h1, by rw [hG k hk]; exact h2⟩)
def LdM (E : List (Ky × A)) (G : Nat → O) (n : Nat) (L : ByteArray → Option (List ByteArray)) : Prop := ∀ s, (L s = none → getM E (.s s) = none) ∧ ∀ l, L s = some l → ∃ v, getM E (.s s) = some v ∧ LVal G n v l
theorem LdM.mono {E : List (Ky × A)} {G G' : Nat → O} {n n' : Nat} {L : ByteArray → Option (List ByteArray)} (h : LdM E G n L) (hn : n ≤ n') (hG : ∀ k, k < n → G' (wid k) = G (wid k)) : LdM E G' n' L := fun s => ⟨(h s).1, fun l hl => by
  obtain ⟨v, h1, h2⟩ := (h s).2 l hl
  exact ⟨v, h1, h2.mono hn hG⟩⟩
theorem LdM.put {E : List (Ky × A)} {G : Nat → O} {n : Nat} {L : ByteArray → Option (List ByteArray)} (h : LdM E G n L) (s : ByteArray) {v : A} {l : List ByteArray} (hv : LVal G n v l) : LdM (putM E (.s s) v) G n (updL L s l) := fun t => by
  rw [getM_putM]
  by_cases e : t = s
  · subst e
    rw [updL_self, if_pos rfl]
    exact ⟨fun e => (by cases e), fun l' e => ⟨v, rfl, by cases e; exact hv⟩⟩
  · rw [updL_ne e, if_neg (fun e2 => e (by injection e2))]
    exact h t
def MkM (E : List (Ky × A)) (M : ByteArray → Bool) : Prop := ∀ s, getM E (.s s) = if M s = true then some (.ag []) else none
theorem MkM.put {E : List (Ky × A)} {M : ByteArray → Bool} (h : MkM E M) (s : ByteArray) : MkM (putM E (.s s) (.ag [])) (markM M s) := fun t => by
  rw [getM_putM]
  by_cases e : t = s
  · subst e
    rw [if_pos rfl, if_pos ((markM_iff _ _ _).2 (.inl rfl))]
  · rw [if_neg (fun e2 => e (by injection e2)), h t]
    have : markM M s t = M t := by
      rw [Bool.eq_iff_iff, markM_iff]
      exact ⟨fun h => h.resolve_left e, .inr⟩
    rw [this]
def badM (i : Nat) : Prop := i = 2005 ∨ (6400 ≤ i ∧ i < 6500) ∨ 10000 ≤ i
def FrM (o o' : Nat → O) : Prop := ∀ i, ¬ badM i → o' i = o i
theorem FrM.refl (o : Nat → O) : FrM o o := fun _ _ => rfl
theorem FrM.trans {o o1 o2 : Nat → O} (h : FrM o o1) (k : FrM o1 o2) : FrM o o2 := fun i hi => (k i hi).trans (h i hi)
theorem frM_nf {n : Nat} {F : Nat → A} {G : Nat → O} {ts : List (Nat × A)} {os : List (Nat × O)} (h : ∀ p ∈ os.map (·.1), badM p) : FrM G (nf n F G ts os).o := fun _ hi => lookO_other fun p hp e => hi (e ▸ h p hp)
theorem leads_len {c : Ci} (hc : COk c) {s : ByteArray} {l : List ByteArray} (h : leadsL c s = some l) : l.length ≤ 8 := by
  rcases leadsL_inv h with ⟨g, hg, _, rfl⟩ | ⟨x, _, _, rfl⟩ | ⟨_, rfl⟩
  · exact hc.ins g hg
  · exact Nat.le_of_ble_eq_true rfl
  · exact Nat.zero_le _
theorem leads_size {c : Ci} (hc : MOk c) {s : ByteArray} {l : List ByteArray} (h : leadsL c s = some l) : ∀ x ∈ l, x.size ≤ 1000000 := by
  rcases leadsL_inv h with ⟨g, hg, _, rfl⟩ | ⟨x, hx, _, rfl⟩ | ⟨_, rfl⟩
  · exact hc.inm g hg
  · intro y hy
    rw [List.mem_singleton.1 hy]
    exact (hc.sla x hx).2
  · intro y hy
    cases hy
set_option maxHeartbeats 8000000 in
theorem mark_cm (c : Ci) (hc : MOk c) (nets : List ByteArray) (hnl : nets.length ≤ 1000) (hns : ∀ s ∈ nets, s.size ≤ 1000000) (o : Nat → O) : Cm Tryd.prog Hy 50 [.ag (cA c), .t (.sl (sR nets))] o fun rs o' => ∃ q E M, rs = [.row 6457 q] ∧ o' 6457 = ⟨q, .map .str E⟩ ∧ MkM E M ∧ (∀ s, M s = true ↔ Rch (leadsL c) nets s) ∧ FrM o o' := by
  have hll := fun s l => leads_len hc.toCOk (s := s) (l := l)
  have hls := fun s l => leads_size hc (s := s) (l := l)
  have hcl := fun (o : Nat → O) => cloneS_cd Hy (sR nets) (sR_one nets) (by rw [sR_len]; omega) (o := o) (R := [] ++ [2005]) (by simp)
  obtain ⟨⟨h1, hn, hi8, hsz, h5, hu⟩, h6, h7, h8, h9⟩ := hc
  have hdom := fun s => leadsL_dom (c := c) (s := s)
  have eI := fun {k s} => ldI_succ (c := c) (k := k) (s := s)
  have eL := fun {k s} => ldL_succ (c := c) (k := k) (x := s)
  have eG := fun {k s} => ldG_succ (c := c) (k := k) (g := s)
  have hM := mlawL
  have hM2 := mlawU
  have hks : ksOf tt 9 = .str := rfl
  have hca : cA c = [.t (.sl (sR c.ins)), .t (.sl (sR c.outs)), .t (.sl (lsR c.las)), .t (.sl (gsR c.gts))] := rfl
  obtain ⟨g1, g2, g3, g4⟩ := h1
  refine cm_of (cls := fun d => 6400 + d) tt_ok follows_ Tryd.func50 rfl (by decide) (Nat.le_of_ble_eq_true rfl) ?_
  rw [show Tryd.f50.ntmps = 98 from rfl, s0_nf]
  simp only [List.zipIdx_cons, List.zipIdx_nil, List.map_cons, List.map_nil, Nat.reduceAdd, cA]
  repeat' first | refine c_seq ?_ | refine c_block ?_ | refine c_reg' rfl fun K E hK hE => ?_ | (refine r_opN fun κ η => ?_; simp only [go_sem, simprocAttr, Nat.le_refl, hks]; (repeat refine ⟨by omega, ?_⟩); refine η _ ?_; clear η κ) | (refine r_nil (hK _ ?_); clear hE hK E K) | refine q_seq ?_
  refine c_loop (fun m s' => ∃ k : Nat, m = c.ins.length - k ∧ k ≤ c.ins.length ∧ ∃ F G0 q1 q E, s' = nf 98 F G0 [(1, .t (.sl (sR nets))), (2, .ptr 6402 q1 0), (5, .row 6419 q), (21, .t (.sl (sR c.ins))), (22, .t (.i .i64 c.ins.length)), (23, .t (.i .i64 k))] [] ∧ G0 6402 = ⟨q1, .cells 26 (cA c)⟩ ∧ G0 6419 = ⟨q, .map .str E⟩ ∧ LdM E G0 0 (ldI c k) ∧ FrM o G0) c.ins.length ?_ ?_
  · exact ⟨0, by omega, by omega, _, _, _, _, _, nf_of rfl ⟨rfl, rfl, rfl, rfl, rfl, rfl, trivial⟩ trivial, rfl, rfl, fun s => ⟨fun _ => rfl, fun l hl => (by cases hl)⟩, frM_nf (by simp [badM])⟩
  rintro m s' ⟨k, rfl, hk, F, G0, q1, q, E, rfl, hb, hq, hL, hF⟩
  simp only [cA] at hb
  repeat' first | refine c_seq ?_ | refine c_reg' rfl fun K E hK hE => ?_ | (refine r_opN fun κ η => ?_; simp only [go_sem, simprocAttr, Nat.le_refl]; refine η _ ?_; clear η κ) | (refine r_nil (hK _ ?_); clear hE hK E K) | refine q_seq ?_
  refine c_cond _ rfl (fun hd => ?_) (fun hd => ?_)
  · simp only [decide_eq_true_eq] at hd
    obtain ⟨x, hx⟩ : ∃ x, c.ins[k]? = some x := ⟨_, List.getElem?_eq_getElem (by omega)⟩
    have hx' := sR_get hx
    have hxs := h6 x (List.mem_of_getElem? hx)
    repeat' first | refine c_seq ?_ | refine c_block ?_ | refine c_reg' rfl fun K E hK hE => ?_ | (refine r_opN fun κ η => ?_; simp only [go_sem, simprocAttr, Nat.le_refl, hx', hq, hks, Ky.ok]; (repeat refine ⟨by omega, ?_⟩); refine η _ ?_; clear η κ) | (refine r_nil (hK _ ?_); clear hE hK E K) | refine q_seq ?_ | refine q_blk ?_ | refine c_skip ?_ | refine q_lpN ?_
    exact ⟨c.ins.length - (k + 1), by omega, k + 1, rfl, by omega, _, _, q1, q, _, nf_of rfl ⟨rfl, rfl, rfl, rfl, rfl, rfl, trivial⟩ trivial, hb, rfl, by rw [eI hx]; exact LdM.put (LdM.mono hL (Nat.le_refl _) (fun k hk => absurd hk (Nat.not_lt_zero k))) x (.inl ⟨rfl, rfl⟩), hF.trans (frM_nf (by simp [badM]))⟩
  simp only [decide_eq_false_iff_not] at hd
  obtain rfl : k = c.ins.length := by omega
  have eI0 : ldI c c.ins.length = ldL c 0 := rfl
  rw [eI0] at hL
  repeat' first | refine c_seq ?_ | refine c_block ?_ | refine c_reg' rfl fun K E hK hE => ?_ | (refine r_opN fun κ η => ?_; simp only [go_sem, simprocAttr, Nat.le_refl, hb]; (repeat refine ⟨by omega, ?_⟩); refine η _ ?_; clear η κ) | (refine r_nil (hK _ ?_); clear hE hK E K) | refine q_seq ?_ | refine c_exit ?_ | refine q_seqE ?_ | refine q_blkHit ?_ | refine q_lpE ?_
  refine c_loop (fun m s' => ∃ k : Nat, m = c.las.length - k ∧ k ≤ c.las.length ∧ ∃ F G0 q1 q E, s' = nf 98 F G0 [(1, .t (.sl (sR nets))), (2, .ptr 6402 q1 0), (5, .row 6419 q), (31, .t (.sl (lsR c.las))), (32, .t (.i .i64 c.las.length)), (33, .t (.i .i64 k))] [] ∧ G0 6402 = ⟨q1, .cells 26 (cA c)⟩ ∧ G0 6419 = ⟨q, .map .str E⟩ ∧ LdM E G0 k (ldL c k) ∧ FrM o G0) c.las.length ?_ ?_
  · exact ⟨0, by omega, by omega, _, _, _, _, _, nf_of rfl ⟨rfl, rfl, rfl, rfl, rfl, rfl, trivial⟩ trivial, hb, hq, hL, hF⟩
  clear hb hq hL hF hd eI0
  rintro m s' ⟨k, rfl, hk, F, G0, q1, q, E, rfl, hb, hq, hL, hF⟩
  simp only [cA] at hb
  repeat' first | refine c_seq ?_ | refine c_reg' rfl fun K E hK hE => ?_ | (refine r_opN fun κ η => ?_; simp only [go_sem, simprocAttr, Nat.le_refl]; refine η _ ?_; clear η κ) | (refine r_nil (hK _ ?_); clear hE hK E K) | refine q_seq ?_
  refine c_cond _ rfl (fun hd => ?_) (fun hd => ?_)
  · simp only [decide_eq_true_eq] at hd
    obtain ⟨x, hx⟩ : ∃ x, c.las[k]? = some x := ⟨_, List.getElem?_eq_getElem (by omega)⟩
    have hx' := lsR_get hx
    have hxs := (h7 x (List.mem_of_getElem? hx)).1
    have w1 := wid_ne k (k := 6419) (by decide)
    have w2 := wid_ne k (k := 6409) (by decide)
    have w1' := wid_ne2 k (k := 6419) (by decide)
    have w2' := wid_ne2 k (k := 6409) (by decide)
    have w3' := wid_ne2 k (k := 6402) (by decide)
    repeat' first | refine c_seq ?_ | refine c_block ?_ | refine c_reg' rfl fun K E hK hE => ?_ | (refine r_opN fun κ η => ?_; simp only [go_sem, simprocAttr, Nat.le_refl]; (repeat refine ⟨by omega, ?_⟩); refine η _ ?_; clear η κ) | refine q_seq ?_ | refine c_skip ?_
    (refine r_opN fun κ η => ?_; simp only [go_sem, simprocAttr, Nat.le_refl, hx']; (repeat refine ⟨by omega, ?_⟩); refine η _ ?_; clear η κ)
    (refine r_opN fun κ η => ?_; simp only [go_sem, simprocAttr, Nat.le_refl]; (repeat refine ⟨by omega, ?_⟩); refine η _ ?_; clear η κ)
    (refine r_opN fun κ η => ?_; simp only [go_sem, simprocAttr, Nat.le_refl]; (repeat refine ⟨by omega, ?_⟩); refine η _ ?_; clear η κ)
    (refine r_opN fun κ η => ?_; simp only [go_sem, simprocAttr, Nat.le_refl]; (repeat refine ⟨by omega, ?_⟩); refine η _ ?_; clear η κ)
    refine r_nil (hK _ ?_); clear hE hK E K
    refine q_seq ?_
    refine c_reg' rfl fun K E hK hE => ?_
    (refine r_opN fun κ η => ?_; simp only [go_sem, simprocAttr, Nat.le_refl]; (repeat refine ⟨by omega, ?_⟩); refine η _ ?_; clear η κ)
    (refine r_opN fun κ η => ?_; simp only [go_sem, simprocAttr, Nat.le_refl]; (repeat refine ⟨by omega, ?_⟩); refine η _ ?_; clear η κ)
    (refine r_opN fun κ η => ?_; simp only [go_sem, simprocAttr, Nat.le_refl]; (repeat refine ⟨by omega, ?_⟩); refine η _ ?_; clear η κ)
    (refine r_opN fun κ η => ?_; simp only [go_sem, simprocAttr, Nat.le_refl]; (repeat refine ⟨by omega, ?_⟩); refine η _ ?_; clear η κ)
    (refine r_opN fun κ η => ?_; simp only [go_sem, simprocAttr, Nat.le_refl]; (repeat refine ⟨by omega, ?_⟩); refine η _ ?_; clear η κ)
    (refine r_opC (fun _ => wid k) fun κ η => ?_; simp only [go_sem, simprocAttr, Nat.le_refl, w1, w2, w1', w2']; (repeat refine ⟨by omega, ?_⟩); refine η _ ?_; clear η κ)
    (refine r_opN fun κ η => ?_; simp only [go_sem, simprocAttr, Nat.le_refl, hq, hks, Ky.ok, w1, w2, w1', w2']; (repeat refine ⟨by omega, ?_⟩); refine η _ ?_; clear η κ)
    repeat' first | refine c_reg' rfl fun K E hK hE => ?_ | (refine r_opN fun κ η => ?_; simp only [go_sem, simprocAttr, Nat.le_refl]; (repeat refine ⟨by omega, ?_⟩); refine η _ ?_; clear η κ) | (refine r_nil (hK _ ?_); clear hE hK E K) | refine q_seq ?_ | refine q_blk ?_ | refine q_lpN ?_
    refine ⟨c.las.length - (k + 1), by omega, k + 1, rfl, by omega, _, _, q1, q, putM E (.s x.name) (.row (wid k) ((G0 (wid k)).gen + 1)), nf_of rfl ⟨rfl, rfl, rfl, rfl, rfl, rfl, trivial⟩ trivial, ?_, ?_, ?_, hF.trans (frM_nf (by simp [badM]; have := wid_ge k; omega))⟩
    · rw [nf_oj]; simp [lookO, w3', hb, cA]
    · rw [nf_oj]; simp [lookO, w1']
    · rw [eL hx]
      refine LdM.put (LdM.mono hL (by omega) (fun j hj => lookO_other (by simp [wid] <;> omega))) x.name (.inr (.inr ⟨k, _, by omega, rfl, ?_⟩))
      rw [nf_oj]
      simp [lookO, w1, w2]
      rfl
  simp only [decide_eq_false_iff_not] at hd
  obtain rfl : k = c.las.length := by omega
  have eL0 : ldL c c.las.length = ldG c 0 := rfl
  rw [eL0] at hL
  repeat' first | refine c_seq ?_ | refine c_block ?_ | refine c_reg' rfl fun K E hK hE => ?_ | (refine r_opN fun κ η => ?_; simp only [go_sem, simprocAttr, Nat.le_refl, hb]; (repeat refine ⟨by omega, ?_⟩); refine η _ ?_; clear η κ) | (refine r_nil (hK _ ?_); clear hE hK E K) | refine q_seq ?_ | refine c_exit ?_ | refine q_seqE ?_ | refine q_blkHit ?_ | refine q_lpE ?_
  refine c_loop (fun m s' => ∃ k : Nat, m = c.gts.length - k ∧ k ≤ c.gts.length ∧ ∃ F G0 q1 q E, s' = nf 98 F G0 [(1, .t (.sl (sR nets))), (2, .ptr 6402 q1 0), (5, .row 6419 q), (45, .t (.sl (gsR c.gts))), (46, .t (.i .i64 c.gts.length)), (47, .t (.i .i64 k))] [] ∧ G0 6402 = ⟨q1, .cells 26 (cA c)⟩ ∧ G0 6419 = ⟨q, .map .str E⟩ ∧ LdM E G0 c.las.length (ldG c k) ∧ FrM o G0) c.gts.length ?_ ?_
  · exact ⟨0, by omega, by omega, _, _, _, _, _, nf_of rfl ⟨rfl, rfl, rfl, rfl, rfl, rfl, trivial⟩ trivial, hb, hq, hL, hF⟩
  clear hb hq hL hF hd eL0
  rintro m s' ⟨k, rfl, hk, F, G0, q1, q, E, rfl, hb, hq, hL, hF⟩
  simp only [cA] at hb
  repeat' first | refine c_seq ?_ | refine c_reg' rfl fun K E hK hE => ?_ | (refine r_opN fun κ η => ?_; simp only [go_sem, simprocAttr, Nat.le_refl]; refine η _ ?_; clear η κ) | (refine r_nil (hK _ ?_); clear hE hK E K) | refine q_seq ?_
  refine c_cond _ rfl (fun hd => ?_) (fun hd => ?_)
  · simp only [decide_eq_true_eq] at hd
    obtain ⟨x, hx⟩ : ∃ x, c.gts[k]? = some x := ⟨_, List.getElem?_eq_getElem (by omega)⟩
    have hx' := gsR_get hx
    have hxs := hsz x (List.mem_of_getElem? hx)
    repeat' first | refine c_seq ?_ | refine c_block ?_ | refine c_reg' rfl fun K E hK hE => ?_ | (refine r_opN fun κ η => ?_; simp only [go_sem, simprocAttr, Nat.le_refl, hx', hq, hks, Ky.ok]; (repeat refine ⟨by omega, ?_⟩); refine η _ ?_; clear η κ) | (refine r_nil (hK _ ?_); clear hE hK E K) | refine q_seq ?_ | refine q_blk ?_ | refine c_skip ?_ | refine q_lpN ?_
    refine ⟨c.gts.length - (k + 1), by omega, k + 1, rfl, by omega, _, _, q1, q, putM E (.s x.name) (.t (.sl (sR x.ins))), nf_of rfl ⟨rfl, rfl, rfl, rfl, rfl, rfl, trivial⟩ trivial, hb, rfl, ?_, hF.trans (frM_nf (by simp [badM]))⟩
    rw [eG hx]
    exact LdM.put (LdM.mono hL (Nat.le_refl _) (fun j hj => lookO_other (by simp [wid] <;> omega))) x.name (.inr (.inl rfl))
  simp only [decide_eq_false_iff_not] at hd
  obtain rfl : k = c.gts.length := by omega
  replace hL : LdM E G0 c.las.length (leadsL c) := hL
  clear hb eI eL eG
  repeat' first | refine c_seq ?_ | refine c_reg' rfl fun K E hK hE => ?_ | (refine r_opN fun κ η => ?_; simp only [go_sem, simprocAttr, Nat.le_refl]; (repeat refine ⟨by omega, ?_⟩); refine η _ ?_; clear η κ) | (refine r_nil (hK _ ?_); clear hE hK E K) | refine q_seq ?_ | refine c_exit ?_ | refine q_seqE ?_ | refine q_blkHit ?_ | refine q_lpE ?_
  refine r_callD (R := []) (W := [2005]) fun κ η => ?_; simp only [go_sem, simprocAttr, Nat.le_refl]; refine ⟨_, _, ?wr_, hcl _, ?_⟩; (case wr_ => rfl); (try simp only [go_sem, simprocAttr, Nat.le_refl]); refine η _ ?_; clear η κ
  repeat' first | refine c_block ?_ | (refine r_opN fun κ η => ?_; simp only [go_sem, simprocAttr, Nat.le_refl, hks]; refine η _ ?_; clear η κ) | (refine r_nil (hK _ ?_); clear hE hK E K) | refine q_seq ?_
  have hun : un (netsC c) (fun _ => false) ≤ 200 := Nat.le_trans (List.length_filter_le _ _) h9
  refine c_loop (fun m s' => ∃ todo M F G0 q2 q3 E', m = todo.length + 9 * un (netsC c) M ∧ m ≤ nets.length + 1800 ∧ s' = nf 98 F G0 [(5, .row 6419 q), (12, .row 6457 q2), (13, .row 2005 q3)] [] ∧ G0 6419 = ⟨q, .map .str E⟩ ∧ G0 6457 = ⟨q2, .map .str E'⟩ ∧ MkM E' M ∧ G0 2005 = ⟨q3, .row 9 1 (sR todo)⟩ ∧ LdM E G0 c.las.length (leadsL c) ∧ MkI (leadsL c) nets todo M ∧ (∀ s ∈ todo, s.size ≤ 1000000) ∧ FrM o G0) (nets.length + 9 * un (netsC c) (fun _ => false)) ?_ ?_
  · exact ⟨nets, fun _ => false, _, _, _, _, _, rfl, by omega, nf_of rfl ⟨rfl, rfl, rfl, trivial⟩ trivial, hq, rfl, fun _ => rfl, rfl, LdM.mono hL (Nat.le_refl _) (fun j hj => lookO_other (by simp [wid] <;> omega)), MkI.start _ _, hns, hF.trans (frM_nf (by simp [badM]))⟩
  clear hq hL hF hd hun
  rintro m s' ⟨todo, M, F, G0, q2, q3, E', rfl, hmb, rfl, hq, hq2, hMk, h5, hL, hI, hts, hF⟩
  rcases List.eq_nil_or_concat todo with rfl | ⟨t, s, rfl⟩
  · have h5' : G0 2005 = ⟨q3, .row 9 1 []⟩ := h5
    repeat' first | refine c_seq ?_ | refine c_reg' rfl fun K E hK hE => ?_ | (refine r_opN fun κ η => ?_; simp only [go_sem, simprocAttr, Nat.le_refl, h5', List.length_nil]; refine η _ ?_; clear η κ) | (refine r_nil (hK _ ?_); clear hE hK E K) | refine q_seq ?_ | refine c_cond false rfl (fun h => (by cases h)) fun _ => ?_ | refine c_exit ?_ | refine c_ret ?_ | refine q_seqE ?_ | refine q_blkHit ?_ | refine q_lpE ?_ | (refine q_ret ?_; refine q_r1 ?_; simp only [go_sem, simprocAttr, Nat.le_refl, h5', List.length_nil])
    exact ⟨q2, E', M, rfl, hq2, hMk, hI.done, hF⟩
  rw [List.concat_eq_append] at *
  have e0 : ((0 : Int) < (t ++ [s]).length) = True := eq_true (by rw [List.length_append, List.length_singleton]; omega)
  have e1 : (((t ++ [s]).length : Int) - 1) = t.length := by rw [List.length_append, List.length_singleton]; omega
  have e2 : (sR (t ++ [s]))[t.length]? = some [.s s] := sR_get (by rw [List.getElem?_append_right (Nat.le_refl _), Nat.sub_self]; rfl)
  have e3 : (sR (t ++ [s])).take t.length = sR t := by unfold sR; rw [← List.map_take, List.take_left]
  have e4 : (t ++ [s]).length = t.length + 1 := by rw [List.length_append]; rfl
  have hss := hts s (by simp)
  have hl2 := (hL s).2
  have hl1 := (hL s).1
  have hms := hMk s
  cases hLs : leadsL c s with
  | none =>
    have hg := hl1 hLs
    cases hMs : M s with
    | true =>
      rw [hMs, if_pos rfl] at hms
      repeat' first | refine c_seq ?_ | refine c_block ?_ | refine c_reg' rfl fun K E hK hE => ?_ | ((first | refine r_opN fun κ η => ?_ | refine r_opG rfl fun κ η => ?_); simp only [go_sem, simprocAttr, Nat.le_refl, h5, e0, e1, e2, e3, hq, hq2, hks, Ky.ok, hg, hms]; (repeat refine ⟨by (first | omega | exact ⟨_, rfl, rfl⟩), ?_⟩); refine η _ ?_; clear η κ) | (refine r_nil (hK _ ?_); clear hE hK E K) | refine q_seq ?_ | refine c_cond true rfl (fun _ => ?_) (fun h => (by cases h)) | refine c_cond false rfl (fun h => (by cases h)) fun _ => ?_ | refine q_blk ?_ | refine c_skip ?_ | refine q_lpN ?_
      refine ⟨t.length + 9 * un (netsC c) M, by omega, t, M, _, _, _, _, _, rfl, by omega, nf_of rfl ⟨rfl, rfl, rfl, trivial⟩ trivial, hq, hq2, hMk, rfl, LdM.mono hL (Nat.le_refl _) (fun j hj => lookO_other (by simp [wid] <;> omega)), MkI.skip hI (.inl hLs), fun x hx => hts x (List.mem_append_left _ hx), hF.trans (frM_nf (by simp [badM]))⟩
    | false =>
      rw [hMs, if_neg (by decide)] at hms
      repeat' first | refine c_seq ?_ | refine c_block ?_ | refine c_reg' rfl fun K E hK hE => ?_ | ((first | refine r_opN fun κ η => ?_ | refine r_opG rfl fun κ η => ?_); simp only [go_sem, simprocAttr, Nat.le_refl, h5, e0, e1, e2, e3, hq, hq2, hks, Ky.ok, hg, hms]; (repeat refine ⟨by (first | omega | exact ⟨_, rfl, rfl⟩), ?_⟩); refine η _ ?_; clear η κ) | (refine r_nil (hK _ ?_); clear hE hK E K) | refine q_seq ?_ | refine c_cond true rfl (fun _ => ?_) (fun h => (by cases h)) | refine c_cond false rfl (fun h => (by cases h)) fun _ => ?_ | refine q_blk ?_ | refine c_skip ?_ | refine q_lpN ?_
      refine ⟨t.length + 9 * un (netsC c) M, by omega, t, M, _, _, _, _, _, rfl, by omega, nf_of rfl ⟨rfl, rfl, rfl, trivial⟩ trivial, hq, hq2, hMk, rfl, LdM.mono hL (Nat.le_refl _) (fun j hj => lookO_other (by simp [wid] <;> omega)), MkI.skip hI (.inl hLs), fun x hx => hts x (List.mem_append_left _ hx), hF.trans (frM_nf (by simp [badM]))⟩
  | some l =>
    obtain ⟨v, hg, hv⟩ := hl2 l hLs
    have hl8 := hll s l hLs
    have hlz := hls s l hLs
    have e5 : sR t ++ sR l = sR (t ++ l) := (sR_app t l).symm
    cases hMs : M s with
    | true =>
      rw [hMs, if_pos rfl] at hms
      repeat' first | refine c_seq ?_ | refine c_block ?_ | refine c_reg' rfl fun K E hK hE => ?_ | ((first | refine r_opN fun κ η => ?_ | refine r_opG rfl fun κ η => ?_); simp only [go_sem, simprocAttr, Nat.le_refl, h5, e0, e1, e2, e3, hq, hq2, hks, Ky.ok, hg, hms]; (repeat refine ⟨by (first | omega | exact ⟨_, rfl, rfl⟩), ?_⟩); refine η _ ?_; clear η κ) | (refine r_nil (hK _ ?_); clear hE hK E K) | refine q_seq ?_ | refine c_cond true rfl (fun _ => ?_) (fun h => (by cases h)) | refine c_cond false rfl (fun h => (by cases h)) fun _ => ?_ | refine q_blk ?_ | refine c_skip ?_ | refine q_lpN ?_
      refine ⟨t.length + 9 * un (netsC c) M, by omega, t, M, _, _, _, _, _, rfl, by omega, nf_of rfl ⟨rfl, rfl, rfl, trivial⟩ trivial, hq, hq2, hMk, rfl, LdM.mono hL (Nat.le_refl _) (fun j hj => lookO_other (by simp [wid] <;> omega)), MkI.skip hI (.inr hMs), fun x hx => hts x (List.mem_append_left _ hx), hF.trans (frM_nf (by simp [badM]))⟩
    | false =>
      rw [hMs, if_neg (by decide)] at hms
      have hum := un_mark hMs (netsC c) (hdom s (by rw [hLs]; simp))
      have hI2 := MkI.mark hI hLs
      have hM2' := hMk.put s
      have hts2 : ∀ x ∈ t ++ l, x.size ≤ 1000000 := fun x hx => by
        rcases List.mem_append.1 hx with hx | hx
        · exact hts x (List.mem_append_left _ hx)
        · exact hlz x hx
      have hlen2 : (t ++ l).length = t.length + l.length := List.length_append
      rcases hv with ⟨rfl, rfl⟩ | rfl | ⟨j, gj, hj, rfl, hrow⟩
      · rw [List.append_nil] at hI2 hts2
        repeat' first | refine c_seq ?_ | refine c_block ?_ | refine c_reg' rfl fun K E hK hE => ?_ | ((first | refine r_opN fun κ η => ?_ | refine r_opG rfl fun κ η => ?_); simp only [go_sem, simprocAttr, Nat.le_refl, h5, e0, e1, e2, e3, hq, hq2, hks, Ky.ok, hg, hms]; (repeat refine ⟨by (first | omega | exact ⟨_, rfl, rfl⟩), ?_⟩); refine η _ ?_; clear η κ) | (refine r_nil (hK _ ?_); clear hE hK E K) | refine q_seq ?_ | refine c_cond true rfl (fun _ => ?_) (fun h => (by cases h)) | refine q_blk ?_ | refine c_skip ?_ | refine q_lpN ?_
        refine ⟨t.length + 9 * un (netsC c) (markM M s), by omega, t, markM M s, _, _, _, _, _, rfl, by omega, nf_of rfl ⟨rfl, rfl, rfl, trivial⟩ trivial, hq, rfl, hM2', rfl, LdM.mono hL (Nat.le_refl _) (fun j hj => lookO_other (by simp [wid] <;> omega)), hI2, hts2, hF.trans (frM_nf (by simp [badM]))⟩
      · have hone := sR_one l
        repeat' first | refine c_seq ?_ | refine c_block ?_ | refine c_reg' rfl fun K E hK hE => ?_ | ((first | refine r_opN fun κ η => ?_ | refine r_opG rfl fun κ η => ?_); simp only [go_sem, simprocAttr, Nat.le_refl, h5, e0, e1, e2, e3, hq, hq2, hks, Ky.ok, hg, hms, e5, hone]; (repeat refine ⟨by (first | omega | exact ⟨_, rfl, rfl⟩), ?_⟩); refine η _ ?_; clear η κ) | (refine r_nil (hK _ ?_); clear hE hK E K) | refine q_seq ?_ | refine c_cond true rfl (fun _ => ?_) (fun h => (by cases h)) | refine q_blk ?_ | refine c_skip ?_ | refine q_lpN ?_
        refine ⟨(t ++ l).length + 9 * un (netsC c) (markM M s), by omega, t ++ l, markM M s, _, _, _, _, _, rfl, by omega, nf_of rfl ⟨rfl, rfl, rfl, trivial⟩ trivial, hq, rfl, hM2', rfl, LdM.mono hL (Nat.le_refl _) (fun j hj => lookO_other (by simp [wid] <;> omega)), hI2, hts2, hF.trans (frM_nf (by simp [badM]))⟩
      · have w1 := wid_ne j (k := 2005) (by decide)
        have w2 := wid_ne j (k := 6457) (by decide)
        have w3 := wid_ne j (k := 6417) (by decide)
        have w4 := wid_ne j (k := 6419) (by decide)
        have w1' := wid_ne2 j (k := 2005) (by decide)
        have w2' := wid_ne2 j (k := 6457) (by decide)
        repeat' first | refine c_seq ?_ | refine c_block ?_ | refine c_reg' rfl fun K E hK hE => ?_ | ((first | refine r_opN fun κ η => ?_ | refine r_opG rfl fun κ η => ?_); simp only [go_sem, simprocAttr, Nat.le_refl, h5, e0, e1, e2, e3, hq, hq2, hks, Ky.ok, hg, hms, e5, hrow, w1, w2, w3, w4, w1', w2']; (repeat refine ⟨by (first | omega | exact ⟨_, rfl, rfl⟩), ?_⟩); refine η _ ?_; clear η κ) | (refine r_nil (hK _ ?_); clear hE hK E K) | refine q_seq ?_ | refine c_cond true rfl (fun _ => ?_) (fun h => (by cases h)) | refine q_blk ?_ | refine c_skip ?_ | refine q_lpN ?_
        refine ⟨(t ++ l).length + 9 * un (netsC c) (markM M s), by omega, t ++ l, markM M s, _, _, _, _, _, rfl, by omega, nf_of rfl ⟨rfl, rfl, rfl, trivial⟩ trivial, hq, rfl, hM2', rfl, LdM.mono hL (Nat.le_refl _) (fun j hj => lookO_other (by simp [wid] <;> omega)), hI2, hts2, hF.trans (frM_nf (by simp [badM]))⟩
end Go.Proofs.YtbhoeanfnbkenaaDoor
