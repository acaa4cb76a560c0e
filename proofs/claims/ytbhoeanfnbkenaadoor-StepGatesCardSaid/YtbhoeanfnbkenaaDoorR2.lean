import Derived.Test.YtbhoeanfnbkenaaDoorR1
namespace Go.Proofs.YtbhoeanfnbkenaaDoor
open Go.RowKit
set_option maxRecDepth 100000
set_option linter.unusedSimpArgs false
variable (Hy : World → Prop)
attribute [local irreducible] runM runD cwp seqQ blkQ lpQ retQ asQ bdQ bdY retP endR preD retD
def seenB (c : UInt8) : Bool := decide (33 ≤ c.toNat) && decide (c.toNat ≤ 126)
def nameB (s : ByteArray) : Bool := decide (1 ≤ s.size) && (decide (s.size ≤ 40) && s.data.toList.all seenB)
theorem size_list (s : ByteArray) : s.data.toList.length = s.size := rfl
theorem name_ct (s : ByteArray) : Ct Tryd.prog Hy 111 [.s s] [.b (nameB s)] := by
  by_cases c1 : s.size < 1
  · have c1' : ((s.size : Int) < 1) = True := eq_true (by omega)
    have hb : nameB s = false := by rw [nameB, decide_eq_false (by omega)]; rfl
    refine ct_of (cls := _root_.id) tt_ok follows_ Tryd.func111 rfl (by decide) (Nat.le_of_ble_eq_true rfl) ?_
    rw [show Tryd.f111.ntmps = 28 from rfl, s0_nf]
    simp only [List.zipIdx_cons, List.zipIdx_nil, List.map_cons, List.map_nil, Nat.reduceAdd]
    repeat' first | refine c_seq ?_ | refine c_reg' rfl fun K E hK hE => ?_ | ((first | refine r_opN fun κ η => ?_ | refine r_opG rfl fun κ η => ?_); simp only [go_sem, simprocAttr, Nat.le_refl, c1']; refine η _ ?_; clear η κ) | (refine r_nil (hK _ ?_); clear hE hK E K) | refine q_seq ?_ | refine c_cond true rfl (fun _ => ?_) (fun h => (by cases h)) | refine c_ret ?_ | refine q_seqR ?_ | (refine q_ret ?_; refine q_r1 ?_; simp only [go_sem, simprocAttr, Nat.le_refl, c1'])
    rw [hb]
  have c1' : ((s.size : Int) < 1) = False := eq_false (by omega)
  by_cases c2 : 40 < s.size
  · have c2' : ((40 : Int) < s.size) = True := eq_true (by omega)
    have hb : nameB s = false := by rw [nameB, decide_eq_false (show ¬ s.size ≤ 40 by omega), Bool.false_and, Bool.and_false]
    refine ct_of (cls := _root_.id) tt_ok follows_ Tryd.func111 rfl (by decide) (Nat.le_of_ble_eq_true rfl) ?_
    rw [show Tryd.f111.ntmps = 28 from rfl, s0_nf]
    simp only [List.zipIdx_cons, List.zipIdx_nil, List.map_cons, List.map_nil, Nat.reduceAdd]
    repeat' first | refine c_seq ?_ | refine c_reg' rfl fun K E hK hE => ?_ | ((first | refine r_opN fun κ η => ?_ | refine r_opG rfl fun κ η => ?_); simp only [go_sem, simprocAttr, Nat.le_refl, c1', c2']; refine η _ ?_; clear η κ) | (refine r_nil (hK _ ?_); clear hE hK E K) | refine q_seq ?_ | refine c_cond true rfl (fun _ => ?_) (fun h => (by cases h)) | refine c_ret ?_ | refine q_seqR ?_ | (refine q_ret ?_; refine q_r1 ?_; simp only [go_sem, simprocAttr, Nat.le_refl, c1', c2'])
    rw [hb]
  have c2' : ((40 : Int) < s.size) = False := eq_false (by omega)
  have hl := size_list s
  have hnb : nameB s = s.data.toList.all seenB := by rw [nameB, decide_eq_true (by omega), decide_eq_true (by omega)]; rfl
  rw [hnb]
  refine ct_of (cls := _root_.id) tt_ok follows_ Tryd.func111 rfl (by decide) (Nat.le_of_ble_eq_true rfl) ?_
  rw [show Tryd.f111.ntmps = 28 from rfl, s0_nf]
  simp only [List.zipIdx_cons, List.zipIdx_nil, List.map_cons, List.map_nil, Nat.reduceAdd]
  repeat' first | refine c_seq ?_ | refine c_block ?_ | refine c_reg' rfl fun K E hK hE => ?_ | ((first | refine r_opN fun κ η => ?_ | refine r_opG rfl fun κ η => ?_); simp only [go_sem, simprocAttr, Nat.le_refl, c1', c2']; refine η _ ?_; clear η κ) | (refine r_nil (hK _ ?_); clear hE hK E K) | refine q_seq ?_ | refine c_cond false rfl (fun h => (by cases h)) fun _ => ?_ | refine c_skip ?_
  refine c_loop (fun m s' => ∃ k : Nat, m = s.size - k ∧ k ≤ s.size ∧ (∀ (j : Nat) c, j < k → s.data.toList[j]? = some c → seenB c = true) ∧ ∃ F G0, s' = nf 28 F G0 [(0, .t (.s s)), (13, .t (.i .i64 s.size)), (14, .t (.i .i64 k))] []) (s.size) ?_ ?_
  · exact ⟨0, by omega, by omega, fun j c hj => absurd hj (Nat.not_lt_zero j), _, _, nf_of rfl ⟨rfl, rfl, rfl, trivial⟩ trivial⟩
  rintro m s' ⟨k, rfl, hk, hno, F, G0, rfl⟩
  repeat' first | refine c_seq ?_ | refine c_reg' rfl fun K E hK hE => ?_ | (refine r_opN fun κ η => ?_; simp only [go_sem, simprocAttr, Nat.le_refl]; refine η _ ?_; clear η κ) | (refine r_nil (hK _ ?_); clear hE hK E K) | refine q_seq ?_
  refine c_cond _ rfl (fun hq => ?_) (fun hq => ?_)
  · simp only [decide_eq_true_eq] at hq
    obtain ⟨c, hc⟩ : ∃ c, s.data.toList[k]? = some c := ⟨_, List.getElem?_eq_getElem (by omega)⟩
    have hbad : seenB c = false → s.data.toList.all seenB = false := fun h => List.all_eq_false.2 ⟨c, List.mem_of_getElem? hc, by rw [h]; decide⟩
    by_cases d1 : c.toNat < 33
    · have d1' : ((c.toNat : Int) < 33) = True := eq_true (by omega)
      repeat' first | refine c_seq ?_ | refine c_block ?_ | refine c_reg' rfl fun K E hK hE => ?_ | ((first | refine r_opN fun κ η => ?_ | refine r_opG rfl fun κ η => ?_); simp only [go_sem, simprocAttr, Nat.le_refl, hc, Int.toNat_natCast, d1']; (repeat refine ⟨by omega, ?_⟩); refine η _ ?_; clear η κ) | (refine r_nil (hK _ ?_); clear hE hK E K) | refine q_seq ?_ | refine c_cond true rfl (fun _ => ?_) (fun h => (by cases h)) | refine c_skip ?_ | refine c_ret ?_ | refine q_seqR ?_ | refine q_blkR ?_ | refine q_lpR ?_ | (refine q_ret ?_; refine q_r1 ?_; simp only [go_sem, simprocAttr, Nat.le_refl, hc, Int.toNat_natCast, d1'])
      rw [hbad (by rw [seenB, decide_eq_false (by omega)]; rfl)]
    have d1' : ((c.toNat : Int) < 33) = False := eq_false (by omega)
    by_cases d2 : 126 < c.toNat
    · have d2' : ((126 : Int) < c.toNat) = True := eq_true (by omega)
      repeat' first | refine c_seq ?_ | refine c_block ?_ | refine c_reg' rfl fun K E hK hE => ?_ | ((first | refine r_opN fun κ η => ?_ | refine r_opG rfl fun κ η => ?_); simp only [go_sem, simprocAttr, Nat.le_refl, hc, Int.toNat_natCast, d1', d2']; (repeat refine ⟨by omega, ?_⟩); refine η _ ?_; clear η κ) | (refine r_nil (hK _ ?_); clear hE hK E K) | refine q_seq ?_ | refine c_cond true rfl (fun _ => ?_) (fun h => (by cases h)) | refine c_skip ?_ | refine c_ret ?_ | refine q_seqR ?_ | refine q_blkR ?_ | refine q_lpR ?_ | (refine q_ret ?_; refine q_r1 ?_; simp only [go_sem, simprocAttr, Nat.le_refl, hc, Int.toNat_natCast, d1', d2'])
      rw [hbad (by rw [seenB, decide_eq_false (show ¬ c.toNat ≤ 126 by omega), Bool.and_false])]
    · have d2' : ((126 : Int) < c.toNat) = False := eq_false (by omega)
      repeat' first | refine c_seq ?_ | refine c_block ?_ | refine c_reg' rfl fun K E hK hE => ?_ | ((first | refine r_opN fun κ η => ?_ | refine r_opG rfl fun κ η => ?_); simp only [go_sem, simprocAttr, Nat.le_refl, hc, Int.toNat_natCast, d1', d2']; (repeat refine ⟨by omega, ?_⟩); refine η _ ?_; clear η κ) | (refine r_nil (hK _ ?_); clear hE hK E K) | refine q_seq ?_ | refine c_cond false rfl (fun h => (by cases h)) fun _ => ?_ | refine q_blk ?_ | refine c_skip ?_ | refine q_lpN ?_
      refine ⟨s.size - (k + 1), by omega, k + 1, rfl, by omega, fun j y hj hy => ?_, _, _, nf_of rfl ⟨rfl, rfl, rfl, trivial⟩ trivial⟩
      rcases Nat.lt_or_eq_of_le (Nat.lt_succ_iff.1 hj) with h | rfl
      · exact hno j y h hy
      · rw [hc] at hy; cases hy
        rw [seenB, decide_eq_true (by omega), decide_eq_true (by omega)]
        rfl
  · simp only [decide_eq_false_iff_not] at hq
    rw [List.all_eq_true.2 fun c hc => by
      obtain ⟨j, hj⟩ := List.getElem?_of_mem hc
      have := (List.getElem?_eq_some_iff.1 hj).1
      exact hno j c (by omega) hj]
    repeat' first | refine c_seq ?_ | refine c_reg' rfl fun K E hK hE => ?_ | (refine r_opN fun κ η => ?_; simp only [go_sem, simprocAttr, Nat.le_refl]; refine η _ ?_; clear η κ) | (refine r_nil (hK _ ?_); clear hE hK E K) | refine q_seq ?_ | refine c_exit ?_ | refine c_ret ?_ | refine q_seqE ?_ | refine q_blkHit ?_ | refine q_lpE ?_ | (refine q_ret ?_; refine q_r1 ?_; simp only [go_sem, simprocAttr, Nat.le_refl])
abbrev Wr := Option (Int × ByteArray)
def wrA (w : Int × ByteArray) : A := .t (.ifc 83 (.ag [.i .i64 w.1, .s w.2]))
def Lo (o o' : Nat → O) : Prop := ∀ i, i < 1000 → o' i = o i
theorem Lo.refl (o : Nat → O) : Lo o o := fun _ _ => rfl
theorem Lo.trans {o o1 o2 : Nat → O} (h : Lo o o1) (k : Lo o1 o2) : Lo o o2 := fun i hi => (k i hi).trans (h i hi)
theorem lo_nf {n : Nat} {F : Nat → A} {G : Nat → O} {ts : List (Nat × A)} {os : List (Nat × O)} (h : (os.all fun p => decide (1000 ≤ p.1)) = true) : Lo G (nf n F G ts os).o := fun i hi => lookO_other fun p hp e => by
  obtain ⟨q, hq, rfl⟩ := List.mem_map.1 hp
  have := of_decide_eq_true (List.all_eq_true.1 h q hq)
  omega
def Ck (f : FuncId) (args : List A) (o : Nat → O) (r : Wr) : Prop := Cp Tryd.prog Hy f args o (fun rs o' => rs = [] ∧ r = none ∧ Lo o o') (fun x o' => (∃ w, r = some w ∧ x = wrA w) ∧ Lo o o')
def Ck0 (f : FuncId) (args : List A) (o : Nat → O) (r : Wr) : Prop := Cp Tryd.prog Hy f args o (fun rs o' => rs = [] ∧ r = none ∧ o' = o) (fun x o' => (∃ w, r = some w ∧ x = wrA w) ∧ o' = o)
theorem find_first {α : Type} {p : α → Bool} {l : List α} {k : Nat} {x : α} (hx : l[k]? = some x) (hp : p x = true) (hno : ∀ (j : Nat) y, j < k → l[j]? = some y → p y = false) : l.find? p = some x := by
  rw [List.find?_eq_some_iff_getElem]
  obtain ⟨hk, hk2⟩ := List.getElem?_eq_some_iff.1 hx
  exact ⟨hp, k, hk, hk2, fun j hj => by rw [hno j _ hj (List.getElem?_eq_getElem (by omega))]; rfl⟩
theorem find_none {α : Type} {p : α → Bool} {l : List α} (hno : ∀ (j : Nat) y, j < l.length → l[j]? = some y → p y = false) : l.find? p = none := by
  rw [List.find?_eq_none]
  intro x hx
  obtain ⟨j, hj⟩ := List.getElem?_of_mem hx
  rw [hno j x (List.getElem?_eq_some_iff.1 hj).1 hj]
  decide
def namesW (l : List ByteArray) : Wr := (l.find? fun s => !nameB s).map fun s => (4, s)
theorem areNames_ck (l : List ByteArray) (hl : l.length ≤ 1000000) (o : Nat → O) : Ck0 Hy 88 [.t (.sl (sR l))] o (namesW l) := by
  refine cp_of (cls := _root_.id) tt_ok follows_ Tryd.func88 rfl (by decide) (Nat.le_of_ble_eq_true rfl) ?_
  rw [show Tryd.f88.ntmps = 17 from rfl, s0_nf]
  simp only [List.zipIdx_cons, List.zipIdx_nil, List.map_cons, List.map_nil, Nat.reduceAdd]
  repeat' first | refine c_seq ?_ | refine c_block ?_ | refine c_reg' rfl fun K E hK hE => ?_ | (refine r_opN fun κ η => ?_; simp only [go_sem, simprocAttr, Nat.le_refl]; refine η _ ?_; clear η κ) | (refine r_nil (hK _ ?_); clear hE hK E K) | refine q_seq ?_
  refine c_loop (fun m s' => ∃ k : Nat, m = l.length - k ∧ k ≤ l.length ∧ (∀ (j : Nat) y, j < k → l[j]? = some y → (!nameB y) = false) ∧ ∃ F, s' = nf 17 F o [(4, .t (.sl (sR l))), (5, .t (.i .i64 l.length)), (6, .t (.i .i64 k))] []) l.length ?_ ?_
  · exact ⟨0, by omega, by omega, fun j x hj => absurd hj (Nat.not_lt_zero j), _, nf_of rfl ⟨rfl, rfl, rfl, trivial⟩ trivial⟩
  rintro m s' ⟨k, rfl, hk, hno, F, rfl⟩
  repeat' first | refine c_seq ?_ | refine c_reg' rfl fun K E hK hE => ?_ | (refine r_opN fun κ η => ?_; simp only [go_sem, simprocAttr, Nat.le_refl]; refine η _ ?_; clear η κ) | (refine r_nil (hK _ ?_); clear hE hK E K) | refine q_seq ?_
  refine c_cond _ rfl (fun hq => ?_) (fun hq => ?_)
  · simp only [decide_eq_true_eq] at hq
    obtain ⟨x, hx⟩ : ∃ x, l[k]? = some x := ⟨_, List.getElem?_eq_getElem (by omega)⟩
    have hx' := sR_get hx
    have hnm := name_ct Hy x
    repeat' first | refine c_seq ?_ | refine c_block ?_ | refine c_reg' rfl fun K E hK hE => ?_ | (refine r_opN fun κ η => ?_; simp only [go_sem, simprocAttr, Nat.le_refl, hx']; (repeat refine ⟨by omega, ?_⟩); refine η _ ?_; clear η κ) | (refine r_nil (hK _ ?_); clear hE hK E K) | refine q_seq ?_ | refine c_skip ?_
    refine r_opN fun κ η => ?_; simp only [go_sem, simprocAttr, Nat.le_refl]; refine ⟨_, hnm, ?_⟩; simp only [go_sem, simprocAttr, Nat.le_refl]; refine η _ ?_; clear η κ
    cases hb : nameB x with
    | true =>
      repeat' first | refine c_reg' rfl fun K E hK hE => ?_ | (refine r_opN fun κ η => ?_; simp only [go_sem, simprocAttr, Nat.le_refl]; (repeat refine ⟨by omega, ?_⟩); refine η _ ?_; clear η κ) | (refine r_nil (hK _ ?_); clear hE hK E K) | refine q_seq ?_ | refine c_cond false rfl (fun h => (by cases h)) fun _ => ?_ | refine q_blk ?_ | refine c_skip ?_ | refine q_lpN ?_
      refine ⟨l.length - (k + 1), by omega, k + 1, rfl, by omega, fun j y hj hy => ?_, _, nf_of rfl ⟨rfl, rfl, rfl, trivial⟩ trivial⟩
      rcases Nat.lt_or_eq_of_le (Nat.lt_succ_iff.1 hj) with h | rfl
      · exact hno j y h hy
      · rw [hx] at hy; cases hy; rw [hb]; rfl
    | false =>
      repeat' first | refine c_reg' rfl fun K E hK hE => ?_ | (refine r_opN fun κ η => ?_; simp only [go_sem, simprocAttr, Nat.le_refl]; refine η _ ?_; clear η κ) | (refine r_nil (hK _ ?_); clear hE hK E K) | refine q_seq ?_ | refine c_cond true rfl (fun _ => ?_) (fun h => (by cases h))
      refine r_panic ?_; simp only [go_sem, simprocAttr, Nat.le_refl]; refine hE.2.2 _ ?_
      repeat' first | refine q_seqP ?_ | refine q_blkP ?_ | refine q_lpP ?_
      exact q_pan ⟨⟨(4, x), by rw [namesW, find_first hx (by rw [hb]; rfl) hno]; rfl, rfl⟩, rfl⟩
  · simp only [decide_eq_false_iff_not] at hq
    repeat' first | refine c_exit ?_ | refine q_seqE ?_ | refine q_blkHit ?_ | refine q_lpE ?_
    exact q_endP ⟨rfl, by rw [namesW, find_none fun j y hj => hno j y (by omega)]; rfl, rfl⟩
theorem areNamesR_ck (l : List ByteArray) (hl : l.length ≤ 1000000) {o : Nat → O} {id g : Nat} (ho : o id = ⟨g, .row 9 1 (sR l)⟩) : Ck0 Hy 88 [.row id g] o (namesW l) := by
  refine cp_of (cls := _root_.id) tt_ok follows_ Tryd.func88 rfl (by decide) (Nat.le_of_ble_eq_true rfl) ?_
  rw [show Tryd.f88.ntmps = 17 from rfl, s0_nf]
  simp only [List.zipIdx_cons, List.zipIdx_nil, List.map_cons, List.map_nil, Nat.reduceAdd]
  repeat' first | refine c_seq ?_ | refine c_block ?_ | refine c_reg' rfl fun K E hK hE => ?_ | (refine r_opN fun κ η => ?_; simp only [go_sem, simprocAttr, Nat.le_refl, ho]; refine η _ ?_; clear η κ) | (refine r_nil (hK _ ?_); clear hE hK E K) | refine q_seq ?_
  refine c_loop (fun m s' => ∃ k : Nat, m = l.length - k ∧ k ≤ l.length ∧ (∀ (j : Nat) y, j < k → l[j]? = some y → (!nameB y) = false) ∧ ∃ F, s' = nf 17 F o [(4, .row id g), (5, .t (.i .i64 l.length)), (6, .t (.i .i64 k))] []) l.length ?_ ?_
  · exact ⟨0, by omega, by omega, fun j x hj => absurd hj (Nat.not_lt_zero j), _, nf_of rfl ⟨rfl, rfl, rfl, trivial⟩ trivial⟩
  rintro m s' ⟨k, rfl, hk, hno, F, rfl⟩
  repeat' first | refine c_seq ?_ | refine c_reg' rfl fun K E hK hE => ?_ | (refine r_opN fun κ η => ?_; simp only [go_sem, simprocAttr, Nat.le_refl, ho]; refine η _ ?_; clear η κ) | (refine r_nil (hK _ ?_); clear hE hK E K) | refine q_seq ?_
  refine c_cond _ rfl (fun hq => ?_) (fun hq => ?_)
  · simp only [decide_eq_true_eq] at hq
    obtain ⟨x, hx⟩ : ∃ x, l[k]? = some x := ⟨_, List.getElem?_eq_getElem (by omega)⟩
    have hx' := sR_get hx
    have hnm := name_ct Hy x
    repeat' first | refine c_seq ?_ | refine c_block ?_ | refine c_reg' rfl fun K E hK hE => ?_ | (refine r_opN fun κ η => ?_; simp only [go_sem, simprocAttr, Nat.le_refl, hx', ho]; (repeat refine ⟨by omega, ?_⟩); refine η _ ?_; clear η κ) | (refine r_nil (hK _ ?_); clear hE hK E K) | refine q_seq ?_ | refine c_skip ?_
    refine r_opN fun κ η => ?_; simp only [go_sem, simprocAttr, Nat.le_refl]; refine ⟨_, hnm, ?_⟩; simp only [go_sem, simprocAttr, Nat.le_refl]; refine η _ ?_; clear η κ
    cases hb : nameB x with
    | true =>
      repeat' first | refine c_reg' rfl fun K E hK hE => ?_ | (refine r_opN fun κ η => ?_; simp only [go_sem, simprocAttr, Nat.le_refl]; (repeat refine ⟨by omega, ?_⟩); refine η _ ?_; clear η κ) | (refine r_nil (hK _ ?_); clear hE hK E K) | refine q_seq ?_ | refine c_cond false rfl (fun h => (by cases h)) fun _ => ?_ | refine q_blk ?_ | refine c_skip ?_ | refine q_lpN ?_
      refine ⟨l.length - (k + 1), by omega, k + 1, rfl, by omega, fun j y hj hy => ?_, _, nf_of rfl ⟨rfl, rfl, rfl, trivial⟩ trivial⟩
      rcases Nat.lt_or_eq_of_le (Nat.lt_succ_iff.1 hj) with h | rfl
      · exact hno j y h hy
      · rw [hx] at hy; cases hy; rw [hb]; rfl
    | false =>
      repeat' first | refine c_reg' rfl fun K E hK hE => ?_ | (refine r_opN fun κ η => ?_; simp only [go_sem, simprocAttr, Nat.le_refl]; refine η _ ?_; clear η κ) | (refine r_nil (hK _ ?_); clear hE hK E K) | refine q_seq ?_ | refine c_cond true rfl (fun _ => ?_) (fun h => (by cases h))
      refine r_panic ?_; simp only [go_sem, simprocAttr, Nat.le_refl]; refine hE.2.2 _ ?_
      repeat' first | refine q_seqP ?_ | refine q_blkP ?_ | refine q_lpP ?_
      exact q_pan ⟨⟨(4, x), by rw [namesW, find_first hx (by rw [hb]; rfl) hno]; rfl, rfl⟩, rfl⟩
  · simp only [decide_eq_false_iff_not] at hq
    repeat' first | refine c_exit ?_ | refine q_seqE ?_ | refine q_blkHit ?_ | refine q_lpE ?_
    exact q_endP ⟨rfl, by rw [namesW, find_none fun j y hj => hno j y (by omega)]; rfl, rfl⟩
end Go.Proofs.YtbhoeanfnbkenaaDoor
namespace Go.Proofs.YtbhoeanfnbkenaaDoor
open Go.RowKit Go.WideMaps
set_option maxRecDepth 100000
set_option linter.unusedSimpArgs false
variable (Hy : World → Prop)
attribute [local irreducible] runM runD cwp seqQ blkQ lpQ retQ asQ bdQ bdY retP endR preD retD
def noneT : ByteArray := ⟨#[]⟩
def bigG (g : Gt) : Bool := decide (8 < g.ins.length) || decide (128 < g.rows.length)
def limitB (c : Ci) : Bool := decide (200 < c.ins.length + c.las.length + c.gts.length) || (decide (200 < c.outs.length) || c.gts.any bigG)
def limitW (c : Ci) : Wr := if limitB c = true then some (8, noneT) else none
structure CRoom (c : Ci) : Prop where
  ins : c.ins.length ≤ 140737488355328
  outs : c.outs.length ≤ 140737488355328
  las : c.las.length ≤ 140737488355328
  gts : c.gts.length ≤ 140737488355328
set_option maxHeartbeats 2000000 in
theorem limits_ck (c : Ci) (hc : CRoom c) (o : Nat → O) : Ck Hy 57 [.ag (cA c)] o (limitW c) := by
  obtain ⟨ins, outs, las, gts⟩ := c
  obtain ⟨h1, h2, h3, h4⟩ := hc
  simp only at h1 h2 h3 h4
  have bad : limitB ⟨ins, outs, las, gts⟩ = true → limitW ⟨ins, outs, las, gts⟩ = some (8, noneT) := fun h => if_pos h
  by_cases c1 : 200 < ins.length + las.length + gts.length
  · have c1' : ((200 : Int) < ins.length + las.length + gts.length) = True := eq_true (by omega)
    have hb := bad (by rw [limitB, decide_eq_true c1]; rfl)
    refine cp_of (cls := fun d => 7500 + d) tt_ok follows_ Tryd.func57 rfl (by decide) (Nat.le_of_ble_eq_true rfl) ?_
    rw [show Tryd.f57.ntmps = 44 from rfl, s0_nf]
    simp only [List.zipIdx_cons, List.zipIdx_nil, List.map_cons, List.map_nil, Nat.reduceAdd, cA]
    repeat' first | refine c_seq ?_ | refine c_reg' rfl fun K E hK hE => ?_ | ((first | refine r_opN fun κ η => ?_ | refine r_opG rfl fun κ η => ?_); simp only [go_sem, simprocAttr, Nat.le_refl, c1']; (repeat refine ⟨by omega, ?_⟩); refine η _ ?_; clear η κ) | (refine r_nil (hK _ ?_); clear hE hK E K) | refine q_seq ?_ | refine c_cond true rfl (fun _ => ?_) (fun h => (by cases h))
    refine r_panic ?_; simp only [go_sem, simprocAttr, Nat.le_refl]; refine hE.2.2 _ ?_
    repeat' refine q_seqP ?_
    exact q_pan ⟨⟨_, hb, rfl⟩, lo_nf rfl⟩
  have c1' : ((200 : Int) < ins.length + las.length + gts.length) = False := eq_false (by omega)
  by_cases c2 : 200 < outs.length
  · have c2' : ((200 : Int) < outs.length) = True := eq_true (by omega)
    have hb := bad (by rw [limitB, decide_eq_true c2]; simp)
    refine cp_of (cls := fun d => 7500 + d) tt_ok follows_ Tryd.func57 rfl (by decide) (Nat.le_of_ble_eq_true rfl) ?_
    rw [show Tryd.f57.ntmps = 44 from rfl, s0_nf]
    simp only [List.zipIdx_cons, List.zipIdx_nil, List.map_cons, List.map_nil, Nat.reduceAdd, cA]
    repeat' first | refine c_seq ?_ | refine c_reg' rfl fun K E hK hE => ?_ | ((first | refine r_opN fun κ η => ?_ | refine r_opG rfl fun κ η => ?_); simp only [go_sem, simprocAttr, Nat.le_refl, c1', c2']; (repeat refine ⟨by omega, ?_⟩); refine η _ ?_; clear η κ) | (refine r_nil (hK _ ?_); clear hE hK E K) | refine q_seq ?_ | refine c_cond true rfl (fun _ => ?_) (fun h => (by cases h))
    refine r_panic ?_; simp only [go_sem, simprocAttr, Nat.le_refl]; refine hE.2.2 _ ?_
    repeat' refine q_seqP ?_
    exact q_pan ⟨⟨_, hb, rfl⟩, lo_nf rfl⟩
  have c2' : ((200 : Int) < outs.length) = False := eq_false (by omega)
  refine cp_of (cls := fun d => 7500 + d) tt_ok follows_ Tryd.func57 rfl (by decide) (Nat.le_of_ble_eq_true rfl) ?_
  rw [show Tryd.f57.ntmps = 44 from rfl, s0_nf]
  simp only [List.zipIdx_cons, List.zipIdx_nil, List.map_cons, List.map_nil, Nat.reduceAdd, cA]
  repeat' first | refine c_seq ?_ | refine c_block ?_ | refine c_reg' rfl fun K E hK hE => ?_ | ((first | refine r_opN fun κ η => ?_ | refine r_opG rfl fun κ η => ?_); simp only [go_sem, simprocAttr, Nat.le_refl, c1', c2']; (repeat refine ⟨by omega, ?_⟩); refine η _ ?_; clear η κ) | (refine r_nil (hK _ ?_); clear hE hK E K) | refine q_seq ?_ | refine c_cond false rfl (fun h => (by cases h)) fun _ => ?_ | refine c_skip ?_
  refine c_loop (fun m s' => ∃ k : Nat, m = gts.length - k ∧ k ≤ gts.length ∧ (∀ (j : Nat) y, j < k → gts[j]? = some y → bigG y = false) ∧ ∃ F G0, s' = nf 44 F G0 [(25, .t (.sl (gsR gts))), (26, .t (.i .i64 gts.length)), (27, .t (.i .i64 k))] [] ∧ Lo o G0) gts.length ?_ ?_
  · exact ⟨0, by omega, by omega, fun j x hj => absurd hj (Nat.not_lt_zero j), _, _, nf_of rfl ⟨rfl, rfl, rfl, trivial⟩ trivial, lo_nf rfl⟩
  rintro m s' ⟨k, rfl, hk, hno, F, G0, rfl, hlo⟩
  repeat' first | refine c_seq ?_ | refine c_reg' rfl fun K E hK hE => ?_ | (refine r_opN fun κ η => ?_; simp only [go_sem, simprocAttr, Nat.le_refl]; refine η _ ?_; clear η κ) | (refine r_nil (hK _ ?_); clear hE hK E K) | refine q_seq ?_
  refine c_cond _ rfl (fun hq => ?_) (fun hq => ?_)
  · simp only [decide_eq_true_eq] at hq
    obtain ⟨x, hx⟩ : ∃ x, gts[k]? = some x := ⟨_, List.getElem?_eq_getElem (by omega)⟩
    have hx' := gsR_get hx
    have hbad : bigG x = true → limitW ⟨ins, outs, las, gts⟩ = some (8, noneT) := fun h => bad (by
      have : gts.any bigG = true := List.any_eq_true.2 ⟨x, List.mem_of_getElem? hx, h⟩
      rw [limitB, this, Bool.or_true, Bool.or_true])
    by_cases d1 : 8 < x.ins.length
    · have d1' : ((8 : Int) < x.ins.length) = True := eq_true (by omega)
      repeat' first | refine c_seq ?_ | refine c_block ?_ | refine c_reg' rfl fun K E hK hE => ?_ | ((first | refine r_opN fun κ η => ?_ | refine r_opG rfl fun κ η => ?_); simp only [go_sem, simprocAttr, Nat.le_refl, hx', d1']; (repeat refine ⟨by omega, ?_⟩); refine η _ ?_; clear η κ) | (refine r_nil (hK _ ?_); clear hE hK E K) | refine q_seq ?_ | refine c_cond true rfl (fun _ => ?_) (fun h => (by cases h)) | refine c_skip ?_
      refine r_panic ?_; simp only [go_sem, simprocAttr, Nat.le_refl]; refine hE.2.2 _ ?_
      repeat' first | refine q_seqP ?_ | refine q_blkP ?_ | refine q_lpP ?_
      exact q_pan ⟨⟨_, hbad (by rw [bigG, decide_eq_true d1]; rfl), rfl⟩, hlo.trans (lo_nf rfl)⟩
    have d1' : ((8 : Int) < x.ins.length) = False := eq_false (by omega)
    by_cases d2 : 128 < x.rows.length
    · have d2' : ((128 : Int) < x.rows.length) = True := eq_true (by omega)
      repeat' first | refine c_seq ?_ | refine c_block ?_ | refine c_reg' rfl fun K E hK hE => ?_ | ((first | refine r_opN fun κ η => ?_ | refine r_opG rfl fun κ η => ?_); simp only [go_sem, simprocAttr, Nat.le_refl, hx', d1', d2']; (repeat refine ⟨by omega, ?_⟩); refine η _ ?_; clear η κ) | (refine r_nil (hK _ ?_); clear hE hK E K) | refine q_seq ?_ | refine c_cond true rfl (fun _ => ?_) (fun h => (by cases h)) | refine c_skip ?_
      refine r_panic ?_; simp only [go_sem, simprocAttr, Nat.le_refl]; refine hE.2.2 _ ?_
      repeat' first | refine q_seqP ?_ | refine q_blkP ?_ | refine q_lpP ?_
      exact q_pan ⟨⟨_, hbad (by rw [bigG, decide_eq_true d2, Bool.or_true]), rfl⟩, hlo.trans (lo_nf rfl)⟩
    · have d2' : ((128 : Int) < x.rows.length) = False := eq_false (by omega)
      repeat' first | refine c_seq ?_ | refine c_block ?_ | refine c_reg' rfl fun K E hK hE => ?_ | ((first | refine r_opN fun κ η => ?_ | refine r_opG rfl fun κ η => ?_); simp only [go_sem, simprocAttr, Nat.le_refl, hx', d1', d2']; (repeat refine ⟨by omega, ?_⟩); refine η _ ?_; clear η κ) | (refine r_nil (hK _ ?_); clear hE hK E K) | refine q_seq ?_ | refine c_cond false rfl (fun h => (by cases h)) fun _ => ?_ | refine q_blk ?_ | refine c_skip ?_ | refine q_lpN ?_
      refine ⟨gts.length - (k + 1), by omega, k + 1, rfl, by omega, fun j y hj hy => ?_, _, _, nf_of rfl ⟨rfl, rfl, rfl, trivial⟩ trivial, hlo.trans (lo_nf rfl)⟩
      rcases Nat.lt_or_eq_of_le (Nat.lt_succ_iff.1 hj) with h | rfl
      · exact hno j y h hy
      · rw [hx] at hy; cases hy
        rw [bigG, decide_eq_false d1, decide_eq_false d2]
        rfl
  · simp only [decide_eq_false_iff_not] at hq
    have hb : limitW ⟨ins, outs, las, gts⟩ = none := if_neg (by
      have : gts.any bigG = false := List.any_eq_false.2 fun x hx => by
        obtain ⟨j, hj⟩ := List.getElem?_of_mem hx
        rw [hno j x (by have := (List.getElem?_eq_some_iff.1 hj).1; omega) hj]
        decide
      rw [limitB, this, decide_eq_false c1, decide_eq_false c2]
      decide)
    repeat' first | refine c_exit ?_ | refine q_seqE ?_ | refine q_blkHit ?_ | refine q_lpE ?_
    exact q_endP ⟨rfl, hb, hlo⟩
instance decIn (s : ByteArray) (l : List ByteArray) : Decidable (s ∈ l) := decidable_of_iff (l.any (fun y => decide (y = s)) = true) (by simp)
def SetM (E : List (Ky × A)) (l : List ByteArray) : Prop := ∀ s : ByteArray, getM E (.s s) = if s ∈ l then some (.ag []) else none
theorem getM_putM (k : Ky) (v : A) (k' : Ky) : ∀ E : List (Ky × A), getM (putM E k v) k' = if k' = k then some v else getM E k' := fun E => by
  unfold putM
  by_cases hm : k ∈ E.map (·.1)
  · rw [if_pos hm]
    by_cases h : k' = k
    · subst h
      rw [if_pos rfl]
      induction E with
      | nil => cases hm
      | cons p E ih =>
        by_cases hp : p.1 = k'
        · simp [getM, hp]
        · have hm' : k' ∈ E.map (·.1) := by
            rcases List.mem_cons.1 hm with h | h
            · exact absurd h.symm hp
            · exact h
          have := ih hm'
          simp only [getM, List.map_cons, if_neg hp] at this ⊢
          rw [List.find?_cons_of_neg (by simpa using hp)]
          exact this
    · rw [if_neg h]
      clear hm
      induction E with
      | nil => rfl
      | cons p E ih =>
        simp only [getM, List.map_cons] at ih ⊢
        by_cases hp : p.1 = k
        · rw [if_pos hp, List.find?_cons_of_neg (by simpa using fun e => h e.symm), List.find?_cons_of_neg (by rw [hp]; simpa using fun e => h e.symm)]
          exact ih
        · rw [if_neg hp]
          by_cases h2 : p.1 = k'
          · rw [List.find?_cons_of_pos (by simpa using h2), List.find?_cons_of_pos (by simpa using h2)]
          · rw [List.find?_cons_of_neg (by simpa using h2), List.find?_cons_of_neg (by simpa using h2)]
            exact ih
  · rw [if_neg hm]
    by_cases h : k' = k
    · subst h
      rw [if_pos rfl]
      have : E.find? (fun p => p.1 = k') = none := List.find?_eq_none.2 fun p hp e => hm (List.mem_map.2 ⟨p, hp, by simpa using e⟩)
      simp [getM, List.find?_append, this]
    · rw [if_neg h]
      have : ¬ k = k' := fun e => h e.symm
      cases hf : E.find? (fun p => p.1 = k') with
      | none => simp [getM, List.find?_append, hf, this]
      | some p => simp [getM, List.find?_append, hf]
theorem SetM.nil : SetM [] [] := fun _ => rfl
theorem SetM.put {E : List (Ky × A)} {l : List ByteArray} (h : SetM E l) (x : ByteArray) : SetM (putM E (.s x) (.ag [])) (l ++ [x]) := fun s => by
  rw [getM_putM, h s]
  by_cases e : s = x
  · subst e
    rw [if_pos rfl, if_pos (by simp)]
  · rw [if_neg (fun h => e (by cases h; rfl))]
    by_cases hm : s ∈ l
    · rw [if_pos hm, if_pos (List.mem_append_left _ hm)]
    · rw [if_neg hm, if_neg]
      intro h
      rcases List.mem_append.1 h with h | h
      · exact hm h
      · exact e (List.mem_singleton.1 h)
theorem key_str {ky : Ky} (hk : ky.ok .str) : ∃ l, keyOf Tryd.prog 9 ky.v = some l := by
  cases ky with
  | s x => exact ⟨_, keyOf_string_mk Tryd.underlying9 (Nat.le_trans hk (by decide))⟩
  | i k n => exact hk.elim
  | a k l => exact hk.elim
theorem mlawU : MLaw Tryd.prog tt 74 9 77 where
  und := Tryd.underlying74
  keyed := Go.Maps.string_keyed Tryd.underlying9
  key := fun ky hk => key_str hk
  zero := ⟨.agg #[], fun w => by
    obtain ⟨i, z, i1, _, _, i4, _⟩ := (tt_ok 77 _ rfl).info
    have e : Tryd.prog.info? 77 = some i := i1
    have hz : (Tryd.prog.info? 77).bind (·.zero) = some (.agg #[]) := by kernel_rfl
    rw [e, Option.bind_some] at hz
    simp [zeroValue, run_info e, hz], fun w D o ι => .ag #[] [] (fun _ => undef) rfl (fun j hj => absurd hj (Nat.not_lt_zero j)) (fun j x hx => by simp at hx) (fun j x hx => by simp at hx)⟩
def twiceF : List ByteArray → List ByteArray → Option ByteArray
  | _, [] => none
  | pre, x :: l => if x ∈ pre then some x else twiceF (pre ++ [x]) l
def twiceW (l : List ByteArray) : Wr := (twiceF [] l).map fun s => (5, s)
theorem twiceF_at : ∀ (l pre : List ByteArray) (k : Nat), (∀ (j : Nat) y, j < k → l[j]? = some y → y ∉ pre ++ l.take j) → k ≤ l.length → twiceF pre l = twiceF (pre ++ l.take k) (l.drop k)
  | l, pre, 0, _, _ => by simp
  | [], pre, k + 1, _, h => by simp at h
  | x :: l, pre, k + 1, hno, hk => by
    have h0 := hno 0 x (by omega) rfl
    rw [List.take_zero, List.append_nil] at h0
    show (if x ∈ pre then some x else twiceF (pre ++ [x]) l) = _
    rw [if_neg h0, twiceF_at l (pre ++ [x]) k (fun j y hj hy => by
      have := hno (j + 1) y (by omega) (by rw [List.getElem?_cons_succ]; exact hy)
      rw [List.take_succ_cons] at this
      rw [List.append_assoc]
      exact this) (by simpa using hk), List.take_succ_cons, List.drop_succ_cons, List.append_assoc]
    rfl
theorem twice_some {l : List ByteArray} {k : Nat} {x : ByteArray} (hno : ∀ (j : Nat) y, j < k → l[j]? = some y → y ∉ l.take j) (hx : l[k]? = some x) (hm : x ∈ l.take k) : twiceW l = some (5, x) := by
  obtain ⟨hk, hk2⟩ := List.getElem?_eq_some_iff.1 hx
  unfold twiceW
  rw [twiceF_at l [] k hno (by omega), List.drop_eq_getElem_cons hk, hk2, List.nil_append]
  unfold twiceF
  rw [if_pos hm]
  rfl
theorem twice_none {l : List ByteArray} (hno : ∀ (j : Nat) y, j < l.length → l[j]? = some y → y ∉ l.take j) : twiceW l = none := by
  unfold twiceW
  rw [twiceF_at l [] l.length hno (Nat.le_refl _), List.drop_length]
  rfl
set_option maxHeartbeats 2000000 in
theorem twice_ck (l : List ByteArray) (hl : l.length ≤ 1000000) (hz : ∀ s ∈ l, s.size ≤ 1000000) (o : Nat → O) : Ck Hy 59 [.t (.sl (sR l))] o (twiceW l) := by
  have hM := mlawU
  have hks : ksOf tt 9 = .str := rfl
  refine cp_of (cls := fun d => 7500 + d) tt_ok follows_ Tryd.func59 rfl (by decide) (Nat.le_of_ble_eq_true rfl) ?_
  rw [show Tryd.f59.ntmps = 28 from rfl, s0_nf]
  simp only [List.zipIdx_cons, List.zipIdx_nil, List.map_cons, List.map_nil, Nat.reduceAdd]
  repeat' first | refine c_seq ?_ | refine c_block ?_ | refine c_reg' rfl fun K E hK hE => ?_ | (refine r_opN fun κ η => ?_; simp only [go_sem, simprocAttr, Nat.le_refl, hks]; (repeat refine ⟨by omega, ?_⟩); refine η _ ?_; clear η κ) | (refine r_nil (hK _ ?_); clear hE hK E K) | refine q_seq ?_
  refine c_loop (fun m s' => ∃ k : Nat, m = l.length - k ∧ k ≤ l.length ∧ (∀ (j : Nat) y, j < k → l[j]? = some y → y ∉ l.take j) ∧ ∃ F G0 q E, s' = nf 28 F G0 [(2, .row 7507 q), (8, .t (.sl (sR l))), (9, .t (.i .i64 l.length)), (10, .t (.i .i64 k))] [] ∧ G0 7507 = ⟨q, .map .str E⟩ ∧ SetM E (l.take k) ∧ Lo o G0) l.length ?_ ?_
  · exact ⟨0, by omega, by omega, fun j x hj => absurd hj (Nat.not_lt_zero j), _, _, _, _, nf_of rfl ⟨rfl, rfl, rfl, rfl, trivial⟩ trivial, rfl, SetM.nil, lo_nf rfl⟩
  rintro m s' ⟨k, rfl, hk, hno, F, G0, q, E, rfl, g7, hE, hlo⟩
  repeat' first | refine c_seq ?_ | refine c_reg' rfl fun K E hK hE => ?_ | (refine r_opN fun κ η => ?_; simp only [go_sem, simprocAttr, Nat.le_refl]; refine η _ ?_; clear η κ) | (refine r_nil (hK _ ?_); clear hE hK E K) | refine q_seq ?_
  refine c_cond _ rfl (fun hq => ?_) (fun hq => ?_)
  · simp only [decide_eq_true_eq] at hq
    obtain ⟨x, hx⟩ : ∃ x, l[k]? = some x := ⟨_, List.getElem?_eq_getElem (by omega)⟩
    have hx' := sR_get hx
    have hsz := hz x (List.mem_of_getElem? hx)
    have hg := hE x
    have hnx : l.take (k + 1) = l.take k ++ [x] := by rw [List.take_add_one, hx]; rfl
    by_cases hm : x ∈ l.take k
    · rw [if_pos hm] at hg
      repeat' first | refine c_seq ?_ | refine c_block ?_ | refine c_reg' rfl fun K E hK hE => ?_ | (refine r_opN fun κ η => ?_; simp only [go_sem, simprocAttr, Nat.le_refl, hx', g7, hks, Ky.ok, hg]; (repeat refine ⟨by omega, ?_⟩); refine η _ ?_; clear η κ) | (refine r_nil (hK _ ?_); clear hE hK E K) | refine q_seq ?_ | refine c_cond true rfl (fun _ => ?_) (fun h => (by cases h)) | refine c_skip ?_
      refine r_panic ?_; simp only [go_sem, simprocAttr, Nat.le_refl]; refine hE.2.2 _ ?_
      repeat' first | refine q_seqP ?_ | refine q_blkP ?_ | refine q_lpP ?_
      exact q_pan ⟨⟨_, twice_some hno hx hm, rfl⟩, hlo.trans (lo_nf rfl)⟩
    · rw [if_neg hm] at hg
      have hE2 := hE.put x
      rw [← hnx] at hE2
      generalize hpu : putM E (.s x) (.ag []) = E2 at hE2
      repeat' first | refine c_seq ?_ | refine c_block ?_ | refine c_reg' rfl fun K E hK hE => ?_ | (refine r_opN fun κ η => ?_; simp only [go_sem, simprocAttr, Nat.le_refl, hx', g7, hks, Ky.ok, hg, hpu]; (repeat refine ⟨by omega, ?_⟩); refine η _ ?_; clear η κ) | (refine r_nil (hK _ ?_); clear hE hK E K) | refine q_seq ?_ | refine c_cond false rfl (fun h => (by cases h)) fun _ => ?_ | refine q_blk ?_ | refine c_skip ?_ | refine q_lpN ?_
      refine ⟨l.length - (k + 1), by omega, k + 1, rfl, by omega, fun j y hj hy => ?_, _, _, _, E2, nf_of rfl ⟨rfl, rfl, rfl, rfl, trivial⟩ trivial, rfl, hE2, hlo.trans (lo_nf rfl)⟩
      rcases Nat.lt_or_eq_of_le (Nat.lt_succ_iff.1 hj) with h | rfl
      · exact hno j y h hy
      · rw [hx] at hy; cases hy; exact hm
  · simp only [decide_eq_false_iff_not] at hq
    repeat' first | refine c_exit ?_ | refine q_seqE ?_ | refine q_blkHit ?_ | refine q_lpE ?_
    exact q_endP ⟨rfl, twice_none fun j y hj => hno j y (by omega), hlo⟩
end Go.Proofs.YtbhoeanfnbkenaaDoor
namespace Go.Proofs.YtbhoeanfnbkenaaDoor
open Go.RowKit Go.WideMaps
set_option maxRecDepth 100000
set_option linter.unusedSimpArgs false
variable (Hy : World → Prop)
attribute [local irreducible] runM runD cwp seqQ blkQ lpQ retQ asQ bdQ bdY retP endR preD retD
def laT (l : La) : List ByteArray := [l.name, l.next]
def gtT (g : Gt) : List ByteArray := g.name :: g.ins
def toldC (c : Ci) : List ByteArray := c.ins ++ (c.outs ++ (c.las.flatMap laT ++ c.gts.flatMap gtT))
theorem namesW_app (a b : List ByteArray) : namesW (a ++ b) = (namesW a).or (namesW b) := by
  unfold namesW
  rw [List.find?_append, Option.map_or]
theorem flat_split {α β : Type} (l : List α) (f : α → List β) (k : Nat) : l.flatMap f = (l.take k).flatMap f ++ (l.drop k).flatMap f := by
  rw [← List.flatMap_append, List.take_append_drop]
theorem flat_succ {α β : Type} {l : List α} {f : α → List β} {k : Nat} {x : α} (h : l[k]? = some x) : (l.take (k + 1)).flatMap f = (l.take k).flatMap f ++ f x := by
  rw [List.take_add_one, h, List.flatMap_append]
  simp
def GFit (l : List Gt) : Prop := ∀ g ∈ l, g.ins.length ≤ 1000000 ∧ g.rows.length ≤ 1000000
set_option maxHeartbeats 4000000 in
theorem checkNames_ck (c : Ci) (hc : CFit c) (hg : GFit c.gts) (o : Nat → O) : Ck Hy 58 [.ag (cA c)] o (namesW (toldC c)) := by
  obtain ⟨ins, outs, las, gts⟩ := c
  obtain ⟨h1, h2, h3, h4⟩ := hc
  simp only at h1 h2 h3 h4 hg
  have e : namesW (toldC ⟨ins, outs, las, gts⟩) = (namesW ins).or ((namesW outs).or ((namesW (las.flatMap laT)).or (namesW (gts.flatMap gtT)))) := by
    unfold toldC
    rw [namesW_app, namesW_app, namesW_app]
  have k1 := areNames_ck Hy ins h1
  have k2 := areNames_ck Hy outs h2
  generalize namesW (toldC ⟨ins, outs, las, gts⟩) = R at e ⊢
  refine cp_of (cls := fun d => 7500 + d) tt_ok follows_ Tryd.func58 rfl (by decide) (Nat.le_of_ble_eq_true rfl) ?_
  rw [show Tryd.f58.ntmps = 41 from rfl, s0_nf]
  simp only [List.zipIdx_cons, List.zipIdx_nil, List.map_cons, List.map_nil, Nat.reduceAdd, cA]
  repeat' first | refine c_seq ?_ | refine c_reg' rfl fun K E hK hE => ?_ | (refine r_opN fun κ η => ?_; simp only [go_sem, simprocAttr, Nat.le_refl]; (repeat refine ⟨by omega, ?_⟩); refine η _ ?_; clear η κ) | (refine r_nil (hK _ ?_); clear hE hK E K) | refine q_seq ?_
  refine r_callP fun κ η => ?_; simp only [go_sem, simprocAttr, Nat.le_refl]; refine ⟨_, _, k1 _, ?_, ?_⟩
  rotate_left
  · rintro _ o' ⟨⟨w, hw, rfl⟩, ho⟩
    have l1 : Lo o o' := by rw [ho]; exact lo_nf rfl
    (try simp only [go_sem, simprocAttr, Nat.le_refl]); refine hE.2.2 _ ?_
    repeat' refine q_seqP ?_
    exact q_pan ⟨⟨w, by rw [e, hw]; rfl, rfl⟩, l1.trans (lo_nf rfl)⟩
  rintro _ o' ⟨rfl, n1, ho⟩
  have l1 : Lo o o' := by rw [ho]; exact lo_nf rfl
  have g1 : o' 7501 = ⟨(o 7501).gen + 1, .cells 26 [.t (.sl (sR ins)), .t (.sl (sR outs)), .t (.sl (lsR las)), .t (.sl (gsR gts))]⟩ := by rw [ho]; rfl
  clear ho
  (try simp only [go_sem, simprocAttr, Nat.le_refl]); refine η _ ?_; clear η κ
  repeat' first | refine c_seq ?_ | refine c_reg' rfl fun K E hK hE => ?_ | (refine r_opN fun κ η => ?_; simp only [go_sem, simprocAttr, Nat.le_refl, g1]; (repeat refine ⟨by omega, ?_⟩); refine η _ ?_; clear η κ) | (refine r_nil (hK _ ?_); clear hE hK E K) | refine q_seq ?_
  refine r_callP fun κ η => ?_; simp only [go_sem, simprocAttr, Nat.le_refl]; refine ⟨_, _, k2 _, ?_, ?_⟩
  rotate_left
  · rintro _ o2 ⟨⟨w, hw, rfl⟩, ho⟩
    have l2 : Lo o o2 := by rw [ho]; exact l1
    (try simp only [go_sem, simprocAttr, Nat.le_refl]); refine hE.2.2 _ ?_
    repeat' refine q_seqP ?_
    exact q_pan ⟨⟨w, by rw [e, n1, hw]; rfl, rfl⟩, l2.trans (lo_nf rfl)⟩
  rintro _ o2 ⟨rfl, n2, ho⟩
  have l2 : Lo o o2 := by rw [ho]; exact l1
  have g2 : o2 7501 = ⟨(o 7501).gen + 1, .cells 26 [.t (.sl (sR ins)), .t (.sl (sR outs)), .t (.sl (lsR las)), .t (.sl (gsR gts))]⟩ := by rw [ho]; exact g1
  clear ho g1 l1
  (try simp only [go_sem, simprocAttr, Nat.le_refl]); refine η _ ?_; clear η κ
  repeat' first | refine c_seq ?_ | refine c_block ?_ | refine c_reg' rfl fun K E hK hE => ?_ | (refine r_opN fun κ η => ?_; simp only [go_sem, simprocAttr, Nat.le_refl, g2]; (repeat refine ⟨by omega, ?_⟩); refine η _ ?_; clear η κ) | (refine r_nil (hK _ ?_); clear hE hK E K) | refine q_seq ?_
  refine c_loop (fun m s' => ∃ k : Nat, m = las.length - k ∧ k ≤ las.length ∧ namesW ((las.take k).flatMap laT) = none ∧ ∃ F G0 q, s' = nf 41 F G0 [(1, .ptr 7501 q 0), (13, .t (.sl (lsR las))), (14, .t (.i .i64 las.length)), (15, .t (.i .i64 k))] [] ∧ G0 7501 = ⟨q, .cells 26 [.t (.sl (sR ins)), .t (.sl (sR outs)), .t (.sl (lsR las)), .t (.sl (gsR gts))]⟩ ∧ Lo o G0) las.length ?_ ?_
  · exact ⟨0, by omega, by omega, rfl, _, _, _, nf_of rfl ⟨rfl, rfl, rfl, rfl, trivial⟩ trivial, g2, l2.trans (lo_nf rfl)⟩
  clear g2 l2
  rintro m s' ⟨k, rfl, hk, hno, F, G0, q, rfl, g1, hlo⟩
  repeat' first | refine c_seq ?_ | refine c_reg' rfl fun K E hK hE => ?_ | (refine r_opN fun κ η => ?_; simp only [go_sem, simprocAttr, Nat.le_refl]; refine η _ ?_; clear η κ) | (refine r_nil (hK _ ?_); clear hE hK E K) | refine q_seq ?_
  refine c_cond _ rfl (fun hq => ?_) (fun hq => ?_)
  · simp only [decide_eq_true_eq] at hq
    obtain ⟨x, hx⟩ : ∃ x, las[k]? = some x := ⟨_, List.getElem?_eq_getElem (by omega)⟩
    have hx' := lsR_get hx
    have hs := flat_succ (f := laT) hx
    repeat' first | refine c_seq ?_ | refine c_block ?_ | refine c_reg' rfl fun K E hK hE => ?_ | (refine r_opN fun κ η => ?_; simp only [go_sem, simprocAttr, Nat.le_refl, hx']; (repeat refine ⟨by omega, ?_⟩); refine η _ ?_; clear η κ) | (refine r_nil (hK _ ?_); clear hE hK E K) | refine q_seq ?_ | refine c_skip ?_
    refine r_callP fun κ η => ?_; simp only [go_sem, simprocAttr, Nat.le_refl]; refine ⟨_, _, areNamesR_ck Hy (laT x) (by show 2 ≤ 1000000; decide) rfl, ?_, ?_⟩
    rotate_left
    · rintro _ o3 ⟨⟨w, hw, rfl⟩, ho⟩
      have l3 : Lo o o3 := by rw [ho]; exact hlo.trans (lo_nf rfl)
      (try simp only [go_sem, simprocAttr, Nat.le_refl]); refine hE.2.2 _ ?_
      repeat' first | refine q_seqP ?_ | refine q_blkP ?_ | refine q_lpP ?_
      refine q_pan ⟨⟨w, ?_, rfl⟩, l3.trans (lo_nf rfl)⟩
      rw [e, n1, n2, flat_split las laT (k + 1), namesW_app, hs, namesW_app, hno, hw]
      rfl
    rintro _ o3 ⟨rfl, n3, ho⟩
    have l3 : Lo o o3 := by rw [ho]; exact hlo.trans (lo_nf rfl)
    have g3 : o3 7501 = ⟨q, .cells 26 [.t (.sl (sR ins)), .t (.sl (sR outs)), .t (.sl (lsR las)), .t (.sl (gsR gts))]⟩ := by rw [ho]; exact g1
    clear ho
    (try simp only [go_sem, simprocAttr, Nat.le_refl]); refine η _ ?_; clear η κ
    repeat' first | refine c_reg' rfl fun K E hK hE => ?_ | (refine r_opN fun κ η => ?_; simp only [go_sem, simprocAttr, Nat.le_refl]; (repeat refine ⟨by omega, ?_⟩); refine η _ ?_; clear η κ) | (refine r_nil (hK _ ?_); clear hE hK E K) | refine q_seq ?_ | refine q_blk ?_ | refine q_lpN ?_
    refine ⟨las.length - (k + 1), by omega, k + 1, rfl, by omega, ?_, _, _, _, nf_of rfl ⟨rfl, rfl, rfl, rfl, trivial⟩ trivial, g3, l3.trans (lo_nf rfl)⟩
    rw [hs, namesW_app, hno, n3]
    rfl
  simp only [decide_eq_false_iff_not] at hq
  rw [List.take_of_length_le (by omega)] at hno
  rw [n1, n2, hno] at e
  clear hq hk hno n1 n2
  repeat' first | refine c_seq ?_ | refine c_block ?_ | refine c_reg' rfl fun K E hK hE => ?_ | (refine r_opN fun κ η => ?_; simp only [go_sem, simprocAttr, Nat.le_refl, g1]; (repeat refine ⟨by omega, ?_⟩); refine η _ ?_; clear η κ) | (refine r_nil (hK _ ?_); clear hE hK E K) | refine q_seq ?_ | refine c_exit ?_ | refine q_seqE ?_ | refine q_blkHit ?_ | refine q_lpE ?_
  refine c_loop (fun m s' => ∃ k : Nat, m = gts.length - k ∧ k ≤ gts.length ∧ namesW ((gts.take k).flatMap gtT) = none ∧ ∃ F G0, s' = nf 41 F G0 [(27, .t (.sl (gsR gts))), (28, .t (.i .i64 gts.length)), (29, .t (.i .i64 k))] [] ∧ Lo o G0) gts.length ?_ ?_
  · exact ⟨0, by omega, by omega, rfl, _, _, nf_of rfl ⟨rfl, rfl, rfl, trivial⟩ trivial, hlo.trans (lo_nf rfl)⟩
  clear hlo g1
  rintro m s' ⟨k, rfl, hk, hno, F, G0, rfl, hlo⟩
  repeat' first | refine c_seq ?_ | refine c_reg' rfl fun K E hK hE => ?_ | (refine r_opN fun κ η => ?_; simp only [go_sem, simprocAttr, Nat.le_refl]; refine η _ ?_; clear η κ) | (refine r_nil (hK _ ?_); clear hE hK E K) | refine q_seq ?_
  refine c_cond _ rfl (fun hq => ?_) (fun hq => ?_)
  · simp only [decide_eq_true_eq] at hq
    obtain ⟨x, hx⟩ : ∃ x, gts[k]? = some x := ⟨_, List.getElem?_eq_getElem (by omega)⟩
    have hx' := gsR_get hx
    have hs := flat_succ (f := gtT) hx
    have hgx := (hg x (List.mem_of_getElem? hx)).1
    have k3 := areNames_ck Hy x.ins hgx
    have hsp : namesW (gtT x) = (namesW [x.name]).or (namesW x.ins) := namesW_app [x.name] x.ins
    repeat' first | refine c_seq ?_ | refine c_block ?_ | refine c_reg' rfl fun K E hK hE => ?_ | (refine r_opN fun κ η => ?_; simp only [go_sem, simprocAttr, Nat.le_refl, hx']; (repeat refine ⟨by omega, ?_⟩); refine η _ ?_; clear η κ) | (refine r_nil (hK _ ?_); clear hE hK E K) | refine q_seq ?_ | refine c_skip ?_
    refine r_callP fun κ η => ?_; simp only [go_sem, simprocAttr, Nat.le_refl]; refine ⟨_, _, areNamesR_ck Hy [x.name] (by show 1 ≤ 1000000; decide) rfl, ?_, ?_⟩
    rotate_left
    · rintro _ o3 ⟨⟨w, hw, rfl⟩, ho⟩
      have l3 : Lo o o3 := by rw [ho]; exact hlo.trans (lo_nf rfl)
      (try simp only [go_sem, simprocAttr, Nat.le_refl]); refine hE.2.2 _ ?_
      repeat' first | refine q_seqP ?_ | refine q_blkP ?_ | refine q_lpP ?_
      refine q_pan ⟨⟨w, ?_, rfl⟩, l3.trans (lo_nf rfl)⟩
      rw [e, flat_split gts gtT (k + 1), namesW_app, hs, namesW_app, hno, hsp, hw]
      rfl
    rintro _ o3 ⟨rfl, n3, ho⟩
    have l3 : Lo o o3 := by rw [ho]; exact hlo.trans (lo_nf rfl)
    have g3 : o3 7505 = ⟨(G0 7505).gen + 1, .cells 45 [.t (.s x.name), .t (.i .i64 x.op), .t (.sl (sR x.ins)), .t (.sl (rR x.rows)), .t (.b x.off)]⟩ := by rw [ho]; rfl
    clear ho
    (try simp only [go_sem, simprocAttr, Nat.le_refl]); refine η _ ?_; clear η κ
    repeat' first | refine c_reg' rfl fun K E hK hE => ?_ | (refine r_opN fun κ η => ?_; simp only [go_sem, simprocAttr, Nat.le_refl, g3]; (repeat refine ⟨by omega, ?_⟩); refine η _ ?_; clear η κ) | (refine r_nil (hK _ ?_); clear hE hK E K) | refine q_seq ?_
    refine r_callP fun κ η => ?_; simp only [go_sem, simprocAttr, Nat.le_refl]; refine ⟨_, _, k3 _, ?_, ?_⟩
    rotate_left
    · rintro _ o4 ⟨⟨w, hw, rfl⟩, ho⟩
      have l4 : Lo o o4 := by rw [ho]; exact l3
      (try simp only [go_sem, simprocAttr, Nat.le_refl]); refine hE.2.2 _ ?_
      repeat' first | refine q_seqP ?_ | refine q_blkP ?_ | refine q_lpP ?_
      refine q_pan ⟨⟨w, ?_, rfl⟩, l4.trans (lo_nf rfl)⟩
      rw [e, flat_split gts gtT (k + 1), namesW_app, hs, namesW_app, hno, hsp, n3, hw]
      rfl
    rintro _ o4 ⟨rfl, n4, ho⟩
    have l4 : Lo o o4 := by rw [ho]; exact l3
    clear ho
    (try simp only [go_sem, simprocAttr, Nat.le_refl]); refine η _ ?_; clear η κ
    repeat' first | refine c_reg' rfl fun K E hK hE => ?_ | (refine r_opN fun κ η => ?_; simp only [go_sem, simprocAttr, Nat.le_refl]; (repeat refine ⟨by omega, ?_⟩); refine η _ ?_; clear η κ) | (refine r_nil (hK _ ?_); clear hE hK E K) | refine q_seq ?_ | refine q_blk ?_ | refine q_lpN ?_
    refine ⟨gts.length - (k + 1), by omega, k + 1, rfl, by omega, ?_, _, _, nf_of rfl ⟨rfl, rfl, rfl, trivial⟩ trivial, l4.trans (lo_nf rfl)⟩
    rw [hs, namesW_app, hno, hsp, n3, n4]
    rfl
  · simp only [decide_eq_false_iff_not] at hq
    rw [List.take_of_length_le (by omega)] at hno
    repeat' first | refine c_exit ?_ | refine q_seqE ?_ | refine q_blkHit ?_ | refine q_lpE ?_
    exact q_endP ⟨rfl, by rw [e, hno]; rfl, hlo⟩
end Go.Proofs.YtbhoeanfnbkenaaDoor
