import Derived.Test.YtfflfmpkjcomgaaH1
import Derived.Test.YtfflfmpkjcomgaaEng20
namespace Go.Proofs.Ytfflfmpkjcomgaa
open Go.RowKit Go.WideMaps
set_option maxRecDepth 100000
set_option linter.unusedSimpArgs false
variable (Hy : World → Prop)
attribute [local irreducible] runM runD cwp seqQ blkQ lpQ retQ asQ bdQ bdY retP
theorem wf64 {n : Int} (h : inR .i64 n) : (Lit.int .i64 n).wf = true := by
  simp only [inR] at h
  show (decide (IntKind.i64.min ≤ n) && decide (n ≤ IntKind.i64.max)) = true
  rw [show IntKind.i64.min = -9223372036854775808 from by decide, show IntKind.i64.max = 9223372036854775807 from by decide, decide_eq_true h.1, decide_eq_true h.2]
  rfl
theorem key_int {ky : Ky} (hk : ky.ok (.int .i64)) : ∃ l, keyOf Try.prog 3 ky.v = some l := by
  cases ky with
  | i k n =>
    obtain ⟨rfl, h⟩ := hk
    exact ⟨_, Go.Maps.keyOf_int_mk Try.underlying3 (wf64 h)⟩
  | s x => exact hk.elim
  | a k l => exact hk.elim
theorem mlawR : MLaw Try.prog tt 50 3 23 where
  und := Try.underlying50
  keyed := Go.Maps.int_keyed Try.underlying3
  key := fun ky hk => key_int hk
  zero := ⟨.slice none 0 0, fun w => by
    obtain ⟨i, z, i1, _, _, i4, _⟩ := (tt_ok 23 _ rfl).info
    have e : Try.prog.info? 23 = some i := i1
    have hz : (Try.prog.info? 23).bind (·.zero) = some (.slice none 0 0) := by kernel_rfl
    rw [e, Option.bind_some] at hz
    simp [zeroValue, run_info e, hz], fun w D o ι => .nilS⟩
theorem mlawS : MLaw Try.prog tt 51 3 88 where
  und := Try.underlying51
  keyed := Go.Maps.int_keyed Try.underlying3
  key := fun ky hk => key_int hk
  zero := ⟨.agg #[], fun w => by
    obtain ⟨i, z, i1, _, _, i4, _⟩ := (tt_ok 88 _ rfl).info
    have e : Try.prog.info? 88 = some i := i1
    have hz : (Try.prog.info? 88).bind (·.zero) = some (.agg #[]) := by kernel_rfl
    rw [e, Option.bind_some] at hz
    simp [zeroValue, run_info e, hz], fun w D o ι => .ag #[] [] (fun _ => undef) rfl (fun j hj => absurd hj (Nat.not_lt_zero j)) (fun j x hx => by simp at hx) (fun j x hx => by simp at hx)⟩
/-- where a literal's clauses stand -/
def hid (x : Int) : Nat := (if x < 0 then 2 * (0 - x) + 1 else 2 * x).toNat + 5000
theorem hid_inj {x y : Int} (h : hid x = hid y) : x = y := by
  unfold hid at h
  split at h <;> split at h <;> omega
theorem hid_ge (x : Int) : 5000 ≤ hid x := Nat.le_add_left _ _
theorem hid_ne (x : Int) {k : Nat} (h : k < 5000) : (hid x = k) = False := eq_false (by have := hid_ge x; omega)
theorem hid_ne2 (x : Int) {k : Nat} (h : k < 5000) : (k = hid x) = False := eq_false (by have := hid_ge x; omega)
/-- a prover's state -/
structure Pv where
  cs : List (List Int)
  lf : List Int
  hk : List Int
  hv : Int → List Int
  tr : List Int
  wn : Int
  cf : Bool
def ky (x : Int) : Ky := .i .i64 x
def setM (l : List Int) : List (Ky × A) := l.map fun x => (ky x, .ag [])
def hasM (l : List Int) (hg : Int → Nat) : List (Ky × A) := l.map fun x => (ky x, .row (hid x) (hg x))
theorem ky_inj {x y : Int} (h : ky x = ky y) : x = y := by injection h
theorem setM_get (l : List Int) (x : Int) : getM (setM l) (ky x) = if x ∈ l then some (.ag []) else none := by
  unfold getM setM
  rw [List.find?_map]
  split
  · rename_i h
    cases hf : l.find? ((fun p : Ky × A => decide (p.1 = ky x)) ∘ fun x => (ky x, A.ag [])) with
    | none =>
      have := List.find?_eq_none.1 hf x h
      simp at this
    | some y => rfl
  · rename_i h
    rw [List.find?_eq_none.2 fun y hy e => h (by
      have := ky_inj (of_decide_eq_true e)
      exact this ▸ hy)]
    rfl
theorem setM_put {l : List Int} {x : Int} (h : x ∉ l) : putM (setM l) (ky x) (.ag []) = setM (l ++ [x]) := by
  unfold putM
  rw [if_neg]
  · unfold setM
    rw [List.map_append]
    rfl
  · intro hm
    obtain ⟨p, hp, he⟩ := List.mem_map.1 hm
    obtain ⟨y, hy, rfl⟩ := List.mem_map.1 hp
    exact h (ky_inj he ▸ hy)
theorem setM_del {l : List Int} {x : Int} (h : x ∉ l) : delM (setM (l ++ [x])) (ky x) = setM l := by
  unfold delM setM
  rw [List.map_append, List.filter_append, List.filter_eq_self.2, List.filter_eq_nil_iff.2, List.append_nil]
  · intro p hp
    obtain ⟨y, hy, rfl⟩ := List.mem_map.1 hp
    rw [List.mem_singleton.1 hy]
    simp
  · intro p hp
    obtain ⟨y, hy, rfl⟩ := List.mem_map.1 hp
    exact decide_eq_true fun e => h (ky_inj e ▸ hy)
theorem hasM_get (l : List Int) (hg : Int → Nat) (x : Int) : getM (hasM l hg) (ky x) = if x ∈ l then some (.row (hid x) (hg x)) else none := by
  unfold getM hasM
  rw [List.find?_map]
  split
  · rename_i h
    cases hf : l.find? ((fun p : Ky × A => decide (p.1 = ky x)) ∘ fun x => (ky x, A.row (hid x) (hg x))) with
    | none =>
      have := List.find?_eq_none.1 hf x h
      simp at this
    | some y =>
      have hy := List.find?_some hf
      have := ky_inj (of_decide_eq_true hy)
      subst this
      rfl
  · rename_i h
    rw [List.find?_eq_none.2 fun y hy e => h (by
      have := ky_inj (of_decide_eq_true e)
      exact this ▸ hy)]
    rfl
/-- a prover in memory -/
structure Prv (o : Nat → O) (p : Pv) (g1 g2 g5 : Nat) (hg : Int → Nat) : Prop where
  b : o 900 = ⟨1, .cells 53 [.row 901 g1, .row 902 g2, .row 903 1, .row 904 1, .row 905 g5, .t (.i .i64 p.wn), .t (.b p.cf)]⟩
  c : o 901 = ⟨g1, .row 31 1 (p.cs.map fun c => [iL c])⟩
  l : o 902 = ⟨g2, .row 3 1 (p.lf.map fun x => [.i .i64 x])⟩
  h : o 903 = ⟨1, .map (.int .i64) (hasM p.hk hg)⟩
  r : ∀ x ∈ p.hk, o (hid x) = ⟨hg x, .row 3 1 ((p.hv x).map fun n => [.i .i64 n])⟩
  s : o 904 = ⟨1, .map (.int .i64) (setM p.tr)⟩
  t : o 905 = ⟨g5, .row 3 1 (p.tr.map fun x => [.i .i64 x])⟩
/-- but for these objects, and for those that are forgotten, all is as it was -/
def Fr (ids : List Nat) (o o' : Nat → O) : Prop := ∀ i, i ∉ ids → o' i = o i
theorem Fr.refl (ids : List Nat) (o : Nat → O) : Fr ids o o := fun _ _ => rfl
theorem Fr.trans {ids : List Nat} {o o1 o2 : Nat → O} (h : Fr ids o o1) (k : Fr ids o1 o2) : Fr ids o o2 := fun i hi => (k i hi).trans (h i hi)
theorem Fr.mono {ids ids' : List Nat} {o o' : Nat → O} (h : Fr ids o o') (hs : ∀ j ∈ ids, j ∈ ids') : Fr ids' o o' := fun _ hi => h _ fun e => hi (hs _ e)
theorem fr_nf {ids : List Nat} {n : Nat} {F : Nat → A} {G : Nat → O} {ts : List (Nat × A)} {os : List (Nat × O)} (h : ∀ p ∈ os.map (·.1), p ∈ ids) : Fr ids G (nf n F G ts os).o := fun _ hi => lookO_other fun p hp e => hi (e ▸ h p hp)
def Lit64 (x : Int) : Prop := -1000000 ≤ x ∧ x ≤ 1000000
theorem kyok {x : Int} (h : Lit64 x) : (ky x).ok (.int .i64) := ⟨rfl, by simp only [inR]; unfold Lit64 at h; omega⟩
theorem is_cm {o : Nat → O} {p : Pv} {g1 g2 g5 : Nat} {hg : Int → Nat} (hP : Prv o p g1 g2 g5 hg) (x : Int) (hx : Lit64 x) : Cm Try.prog Hy 63 [.ptr 900 1 0, .t (.i .i64 x)] o fun rs o' => rs = [.t (.b (decide (x ∈ p.tr)))] ∧ Fr [908] o o' := by
  have hb := hP.b
  have hs := hP.s
  have hm := mlawS
  have hk := kyok hx
  have hget := setM_get p.tr x
  simp only [ky] at hk hget
  refine cm_of (cls := fun _ => 908) tt_ok follows_ Try.func63 rfl (by decide) (Nat.le_of_ble_eq_true rfl) ?_
  rw [show Try.f63.ntmps = 17 from rfl, s0_nf]
  simp only [List.zipIdx_cons, List.zipIdx_nil, List.map_cons, List.map_nil, Nat.reduceAdd]
  by_cases hxt : x ∈ p.tr
  · rw [if_pos hxt] at hget
    rw [decide_eq_true hxt]
    repeat' first | refine c_seq ?_ | refine c_reg' rfl fun K E hK hE => ?_ | (refine r_opN fun κ η => ?_; simp only [go_sem, Nat.reduceLT, Nat.reduceEqDiff, Nat.reduceAdd, Nat.reduceMul, Nat.reduceLeDiff, Nat.le_refl, reduceIte, reduceCtorEq, hb, hs, hget]; (repeat refine ⟨by omega, ?_⟩); refine η _ ?_; clear η κ) | (refine r_nil (hK _ ?_); clear hE hK E K) | refine q_seq ?_ | refine c_ret ?_ | (refine q_ret ?_; refine q_r1 ?_; simp only [go_sem, Nat.reduceLT, Nat.reduceEqDiff, Nat.reduceAdd, Nat.reduceMul, Nat.reduceLeDiff, Nat.le_refl, reduceIte, reduceCtorEq, hb, hs, hget])
    exact fr_nf (by simp)
  · rw [if_neg hxt] at hget
    rw [decide_eq_false hxt]
    repeat' first | refine c_seq ?_ | refine c_reg' rfl fun K E hK hE => ?_ | (refine r_opN fun κ η => ?_; simp only [go_sem, Nat.reduceLT, Nat.reduceEqDiff, Nat.reduceAdd, Nat.reduceMul, Nat.reduceLeDiff, Nat.le_refl, reduceIte, reduceCtorEq, hb, hs, hget]; (repeat refine ⟨by omega, ?_⟩); refine η _ ?_; clear η κ) | (refine r_nil (hK _ ?_); clear hE hK E K) | refine q_seq ?_ | refine c_ret ?_ | (refine q_ret ?_; refine q_r1 ?_; simp only [go_sem, Nat.reduceLT, Nat.reduceEqDiff, Nat.reduceAdd, Nat.reduceMul, Nat.reduceLeDiff, Nat.le_refl, reduceIte, reduceCtorEq, hb, hs, hget])
    exact fr_nf (by simp)
theorem Prv.fr {ids : List Nat} {o o' : Nat → O} {p : Pv} {g1 g2 g5 : Nat} {hg : Int → Nat} (hP : Prv o p g1 g2 g5 hg) (hF : Fr ids o o') (h : ∀ i ∈ ids, i < 5000 ∧ i ≠ 900 ∧ i ≠ 901 ∧ i ≠ 902 ∧ i ≠ 903 ∧ i ≠ 904 ∧ i ≠ 905) : Prv o' p g1 g2 g5 hg := by
  obtain ⟨h1, h2, h3, h4, h5, h6, h7⟩ := hP
  have e : ∀ i, (5000 ≤ i ∨ i = 900 ∨ i = 901 ∨ i = 902 ∨ i = 903 ∨ i = 904 ∨ i = 905) → o' i = o i := fun i hi => hF i fun hm => by
    have := h i hm
    omega
  exact ⟨by rw [e _ (by omega)]; exact h1, by rw [e _ (by omega)]; exact h2, by rw [e _ (by omega)]; exact h3, by rw [e _ (by omega)]; exact h4, fun x hx => by rw [e _ (.inl (hid_ge x))]; exact h5 x hx, by rw [e _ (by omega)]; exact h6, by rw [e _ (by omega)]; exact h7⟩
def holdP (p : Pv) (x : Int) : Pv := if 0 - x ∈ p.tr then { p with cf := true } else if x ∈ p.tr then p else { p with tr := p.tr ++ [x] }
theorem hold_cm {o : Nat → O} {p : Pv} {g1 g2 g5 : Nat} {hg : Int → Nat} (hP : Prv o p g1 g2 g5 hg) (x : Int) (hx : Lit64 x) (ht : p.tr.length ≤ 1000000) :
    Cm Try.prog Hy 47 [.ptr 900 1 0, .t (.i .i64 x)] o fun rs o' => rs = [] ∧ (∃ g, Prv o' (holdP p x) g1 g2 g hg) ∧ Fr [900, 904, 905, 908] o o' := by
  have hw : IntKind.wrap .i64 (0 - x) = 0 - x := inR_wrap (by simp only [inR]; unfold Lit64 at hx; omega)
  have hx2 : Lit64 (0 - x) := by unfold Lit64 at hx ⊢; omega
  have hm := mlawS
  have hk := kyok hx
  simp only [ky] at hk
  refine cm_of (cls := fun _ => 908) tt_ok follows_ Try.func47 rfl (by decide) (Nat.le_of_ble_eq_true rfl) ?_
  rw [show Try.f47.ntmps = 33 from rfl, s0_nf]
  simp only [List.zipIdx_cons, List.zipIdx_nil, List.map_cons, List.map_nil, Nat.reduceAdd]
  repeat' first | refine c_seq ?_ | refine c_block ?_ | refine c_reg' rfl fun K E hK hE => ?_ | (refine r_opN fun κ η => ?_; simp only [go_sem, Nat.reduceLT, Nat.reduceEqDiff, Nat.reduceAdd, Nat.reduceMul, Nat.reduceLeDiff, Nat.le_refl, reduceIte, reduceCtorEq, hw]; refine η _ ?_; clear η κ)
  refine r_call fun κ η => ?_; simp only [go_sem, Nat.reduceLT, Nat.reduceEqDiff, Nat.reduceAdd, Nat.reduceMul, Nat.reduceLeDiff, Nat.le_refl, reduceIte, reduceCtorEq]; refine ⟨_, is_cm Hy hP (0 - x) hx2, ?_⟩; rintro _ o2 ⟨rfl, hF⟩; simp only [go_sem, Nat.reduceLT, Nat.reduceEqDiff, Nat.reduceAdd, Nat.reduceMul, Nat.reduceLeDiff, Nat.le_refl, reduceIte, reduceCtorEq]; refine η _ ?_; clear η κ
  replace hP := hP.fr hF (by simp)
  have hb := hP.b
  by_cases c1 : 0 - x ∈ p.tr
  · rw [decide_eq_true c1]
    repeat' first | (refine r_opN fun κ η => ?_; simp only [go_sem, Nat.reduceLT, Nat.reduceEqDiff, Nat.reduceAdd, Nat.reduceMul, Nat.reduceLeDiff, Nat.le_refl, reduceIte, reduceCtorEq]; refine η _ ?_; clear η κ) | (refine r_nil (hK _ ?_); clear hE hK E K) | refine q_seq ?_
    refine c_cond _ rfl (fun hq => ?_) (fun hq => (by cases hq))
    repeat' first | refine c_reg' rfl fun K E hK hE => ?_ | (refine r_opN fun κ η => ?_; simp only [go_sem, Nat.reduceLT, Nat.reduceEqDiff, Nat.reduceAdd, Nat.reduceMul, Nat.reduceLeDiff, Nat.le_refl, reduceIte, reduceCtorEq, hb]; (repeat refine ⟨by omega, ?_⟩); refine η _ ?_; clear η κ) | (refine r_nil (hK _ ?_); clear hE hK E K) | refine q_blk ?_ | (refine q_end ?_; refine q_r0 ?_; simp only [go_sem, Nat.reduceLT, Nat.reduceEqDiff, Nat.reduceAdd, Nat.reduceMul, Nat.reduceLeDiff, Nat.le_refl, reduceIte, reduceCtorEq, hb])
    refine ⟨⟨g5, ?_⟩, ?_⟩
    · rw [holdP, if_pos c1]
      obtain ⟨h1, h2, h3, h4, h5, h6, h7⟩ := hP
      exact ⟨rfl, h2, h3, h4, fun y hy => by rw [← h5 y hy]; exact lookO_other (by simp [hid_ne2]), h6, h7⟩
    · exact (hF.mono (by simp)).trans (fr_nf (by simp))
  · rw [decide_eq_false c1]
    repeat' first | (refine r_opN fun κ η => ?_; simp only [go_sem, Nat.reduceLT, Nat.reduceEqDiff, Nat.reduceAdd, Nat.reduceMul, Nat.reduceLeDiff, Nat.le_refl, reduceIte, reduceCtorEq]; refine η _ ?_; clear η κ) | (refine r_nil (hK _ ?_); clear hE hK E K) | refine q_seq ?_
    refine c_cond _ rfl (fun hq => (by cases hq)) (fun hq => ?_)
    repeat' first | refine c_seq ?_ | refine c_reg' rfl fun K E hK hE => ?_ | (refine r_opN fun κ η => ?_; simp only [go_sem, Nat.reduceLT, Nat.reduceEqDiff, Nat.reduceAdd, Nat.reduceMul, Nat.reduceLeDiff, Nat.le_refl, reduceIte, reduceCtorEq]; refine η _ ?_; clear η κ)
    refine r_call fun κ η => ?_; simp only [go_sem, Nat.reduceLT, Nat.reduceEqDiff, Nat.reduceAdd, Nat.reduceMul, Nat.reduceLeDiff, Nat.le_refl, reduceIte, reduceCtorEq]; refine ⟨_, is_cm Hy hP x hx, ?_⟩; rintro _ o3 ⟨rfl, hF2⟩; simp only [go_sem, Nat.reduceLT, Nat.reduceEqDiff, Nat.reduceAdd, Nat.reduceMul, Nat.reduceLeDiff, Nat.le_refl, reduceIte, reduceCtorEq]; refine η _ ?_; clear η κ
    replace hP := hP.fr hF2 (by simp)
    have hF3 := hF.trans hF2
    clear hF hF2 hb
    have hb := hP.b
    have hs := hP.s
    have ht5 := hP.t
    by_cases c2 : x ∈ p.tr
    · rw [decide_eq_true c2]
      repeat' first | (refine r_opN fun κ η => ?_; simp only [go_sem, Nat.reduceLT, Nat.reduceEqDiff, Nat.reduceAdd, Nat.reduceMul, Nat.reduceLeDiff, Nat.le_refl, reduceIte, reduceCtorEq]; refine η _ ?_; clear η κ) | (refine r_nil (hK _ ?_); clear hE hK E K) | refine q_seq ?_
      refine c_cond _ rfl (fun hq => (by cases hq)) (fun hq => ?_)
      repeat' first | refine q_blk ?_ | refine c_skip ?_ | (refine q_end ?_; refine q_r0 ?_; simp only [go_sem, Nat.reduceLT, Nat.reduceEqDiff, Nat.reduceAdd, Nat.reduceMul, Nat.reduceLeDiff, Nat.le_refl, reduceIte, reduceCtorEq])
      exact ⟨⟨g5, by rw [holdP, if_neg c1, if_pos c2]; exact hP⟩, hF3.mono (by simp)⟩
    · rw [decide_eq_false c2]
      have hput := setM_put c2
      simp only [ky] at hput
      repeat' first | (refine r_opN fun κ η => ?_; simp only [go_sem, Nat.reduceLT, Nat.reduceEqDiff, Nat.reduceAdd, Nat.reduceMul, Nat.reduceLeDiff, Nat.le_refl, reduceIte, reduceCtorEq]; refine η _ ?_; clear η κ) | (refine r_nil (hK _ ?_); clear hE hK E K) | refine q_seq ?_
      refine c_cond _ rfl (fun hq => ?_) (fun hq => (by cases hq))
      repeat' first | refine c_seq ?_ | refine c_reg' rfl fun K E hK hE => ?_ | (refine r_opN fun κ η => ?_; simp only [go_sem, Nat.reduceLT, Nat.reduceEqDiff, Nat.reduceAdd, Nat.reduceMul, Nat.reduceLeDiff, Nat.le_refl, reduceIte, reduceCtorEq, hb, hs, ht5, hput]; (repeat refine ⟨by omega, ?_⟩); refine η _ ?_; clear η κ) | (refine r_nil (hK _ ?_); clear hE hK E K) | refine q_seq ?_ | refine q_blk ?_ | (refine q_end ?_; refine q_r0 ?_; simp only [go_sem, Nat.reduceLT, Nat.reduceEqDiff, Nat.reduceAdd, Nat.reduceMul, Nat.reduceLeDiff, Nat.le_refl, reduceIte, reduceCtorEq, hb, hs, ht5, hput])
      refine ⟨⟨g5 + 1, ?_⟩, ?_⟩
      · rw [holdP, if_neg c1, if_neg c2]
        obtain ⟨h1, h2, h3, h4, h5, h6, h7⟩ := hP
        exact ⟨rfl, h2, h3, h4, fun y hy => by rw [← h5 y hy]; exact lookO_other (by simp [hid_ne2]), rfl, by rw [List.map_append]; rfl⟩
      · exact (hF3.mono (by simp)).trans (fr_nf (by simp))
end Go.Proofs.Ytfflfmpkjcomgaa
namespace Go.Proofs.Ytfflfmpkjcomgaa
open Go.RowKit
set_option maxRecDepth 100000
set_option linter.unusedSimpArgs false
variable (Hy : World → Prop)
attribute [local irreducible] runM runD cwp seqQ blkQ lpQ retQ asQ bdQ bdY retP
def lastP (p : Pv) (n : Nat) : Pv := match (p.cs.getD n []).find? fun x => !decide (0 - x ∈ p.tr) with
  | some x => holdP p x
  | none => { p with cf := true }
theorem find_at {l : List Int} {q : Int → Bool} {k : Nat} {x : Int} (hx : l[k]? = some x) (hq : q x = true) (hno : ∀ (j : Nat) y, j < k → l[j]? = some y → q y = false) : l.find? q = some x := by
  induction l generalizing k with
  | nil => simp at hx
  | cons y l ih =>
    cases k with
    | zero =>
      cases hx
      rw [List.find?_cons, hq]
    | succ k =>
      rw [List.find?_cons, hno 0 y (by omega) rfl]
      exact ih (by simpa using hx) (fun j z hj hz => hno (j + 1) z (by omega) (by simpa using hz))
theorem Prv.rest {o o' : Nat → O} {p p' : Pv} {g1 g2 g5 g : Nat} {hg : Int → Nat} (hP : Prv o p g1 g2 g5 hg) (hb : o' 900 = ⟨1, .cells 53 [.row 901 g1, .row 902 g2, .row 903 1, .row 904 1, .row 905 g, .t (.i .i64 p'.wn), .t (.b p'.cf)]⟩)
    (e1 : p'.cs = p.cs) (e2 : p'.hk = p.hk) (e3 : p'.hv = p.hv) (hl : o' 902 = ⟨g2, .row 3 1 (p'.lf.map fun x => [.i .i64 x])⟩) (hs : o' 904 = ⟨1, .map (.int .i64) (setM p'.tr)⟩) (ht : o' 905 = ⟨g, .row 3 1 (p'.tr.map fun x => [.i .i64 x])⟩)
    (h : ∀ i, (5000 ≤ i ∨ i = 901 ∨ i = 903) → o' i = o i) : Prv o' p' g1 g2 g hg := by
  obtain ⟨h1, h2, h3, h4, h5, h6, h7⟩ := hP
  exact ⟨hb, by rw [h _ (by omega), e1]; exact h2, hl, by rw [h _ (by omega), e2]; exact h4, fun x hx => by rw [h _ (.inl (hid_ge x)), e3]; exact h5 x (e2 ▸ hx), hs, ht⟩
theorem last_cm {o : Nat → O} {p : Pv} {g1 g2 g5 : Nat} {hg : Int → Nat} (hP : Prv o p g1 g2 g5 hg) (n : Nat) (c : List Int) (hc : p.cs[n]? = some c) (hlit : ∀ x ∈ c, Lit64 x) (hl : c.length ≤ 1000000) (ht : p.tr.length ≤ 1000000) :
    Cm Try.prog Hy 64 [.ptr 900 1 0, .t (.i .i64 n)] o fun rs o' => rs = [] ∧ (∃ g, Prv o' (lastP p n) g1 g2 g hg) ∧ Fr [900, 904, 905, 908] o o' := by
  have hn := (List.getElem?_eq_some_iff.1 hc).1
  have hgd : p.cs.getD n [] = c := by rw [List.getD_eq_getElem?_getD, hc]; rfl
  have hb := hP.b
  have hcl := hP.c
  refine cm_of (cls := fun _ => 908) tt_ok follows_ Try.func64 rfl (by decide) (Nat.le_of_ble_eq_true rfl) ?_
  rw [show Try.f64.ntmps = 30 from rfl, s0_nf]
  simp only [List.zipIdx_cons, List.zipIdx_nil, List.map_cons, List.map_nil, Nat.reduceAdd]
  repeat' first | refine c_seq ?_ | refine c_block ?_ | refine c_reg' rfl fun K E hK hE => ?_ | (refine r_opN fun κ η => ?_; simp only [go_sem, Nat.reduceLT, Nat.reduceEqDiff, Nat.reduceAdd, Nat.reduceMul, Nat.reduceLeDiff, Nat.le_refl, reduceIte, reduceCtorEq, hb, hcl, hc, iL]; (repeat refine ⟨by omega, ?_⟩); refine η _ ?_; clear η κ) | (refine r_nil (hK _ ?_); clear hE hK E K) | refine q_seq ?_
  refine c_loop (fun m s' => ∃ k : Nat, m = c.length - k ∧ k ≤ c.length ∧ (∀ (j : Nat) y, j < k → c[j]? = some y → (!decide (0 - y ∈ p.tr)) = false) ∧ ∃ F G0, Fr [908] o G0 ∧ s' = nf 30 F G0 [(0, .ptr 900 1 0), (12, .t (iL c)), (13, .t (.i .i64 c.length)), (14, .t (.i .i64 k))] []) c.length ?_ ?_
  · exact ⟨0, by omega, by omega, fun j x hj => absurd hj (Nat.not_lt_zero j), _, _, Fr.refl _ _, nf_of rfl ⟨rfl, rfl, rfl, rfl, trivial⟩ trivial⟩
  rintro m s' ⟨k, rfl, hk, hno, F, G0, hF, rfl⟩
  replace hP := hP.fr hF (by simp)
  clear hb hcl
  have hb := hP.b
  simp only [iL]
  repeat' first | refine c_seq ?_ | refine c_reg' rfl fun K E hK hE => ?_ | (refine r_opN fun κ η => ?_; simp only [go_sem, Nat.reduceLT, Nat.reduceEqDiff, Nat.reduceAdd, Nat.reduceMul, Nat.reduceLeDiff, Nat.le_refl, reduceIte, reduceCtorEq]; refine η _ ?_; clear η κ) | (refine r_nil (hK _ ?_); clear hE hK E K) | refine q_seq ?_
  refine c_cond _ rfl (fun hq => ?_) (fun hq => ?_)
  · simp only [decide_eq_true_eq] at hq
    obtain ⟨x, hx⟩ : ∃ x, c[k]? = some x := ⟨_, List.getElem?_eq_getElem (by omega)⟩
    have hx6 := hlit x (List.mem_of_getElem? hx)
    have hw : IntKind.wrap .i64 (0 - x) = 0 - x := inR_wrap (by simp only [inR]; unfold Lit64 at hx6; omega)
    repeat' first | refine c_seq ?_ | refine c_block ?_ | refine c_reg' rfl fun K E hK hE => ?_ | (refine r_opN fun κ η => ?_; simp only [go_sem, Nat.reduceLT, Nat.reduceEqDiff, Nat.reduceAdd, Nat.reduceMul, Nat.reduceLeDiff, Nat.le_refl, reduceIte, reduceCtorEq, hx, hw]; (repeat refine ⟨by omega, ?_⟩); refine η _ ?_; clear η κ) | (refine r_nil (hK _ ?_); clear hE hK E K) | refine q_seq ?_ | refine c_skip ?_
    refine r_call fun κ η => ?_; simp only [go_sem, Nat.reduceLT, Nat.reduceEqDiff, Nat.reduceAdd, Nat.reduceMul, Nat.reduceLeDiff, Nat.le_refl, reduceIte, reduceCtorEq]; refine ⟨_, is_cm Hy hP (0 - x) (by unfold Lit64 at hx6 ⊢; omega), ?_⟩; rintro _ o2 ⟨rfl, hF2⟩; simp only [go_sem, Nat.reduceLT, Nat.reduceEqDiff, Nat.reduceAdd, Nat.reduceMul, Nat.reduceLeDiff, Nat.le_refl, reduceIte, reduceCtorEq]; refine η _ ?_; clear η κ
    replace hP := hP.fr hF2 (by simp)
    by_cases c1 : 0 - x ∈ p.tr
    · rw [decide_eq_true c1]
      repeat' first | (refine r_opN fun κ η => ?_; simp only [go_sem, Nat.reduceLT, Nat.reduceEqDiff, Nat.reduceAdd, Nat.reduceMul, Nat.reduceLeDiff, Nat.le_refl, reduceIte, reduceCtorEq]; refine η _ ?_; clear η κ) | (refine r_nil (hK _ ?_); clear hE hK E K) | refine q_seq ?_
      refine c_cond _ rfl (fun hq => (by cases hq)) (fun hq => ?_)
      repeat' first | refine c_reg' rfl fun K E hK hE => ?_ | (refine r_opN fun κ η => ?_; simp only [go_sem, Nat.reduceLT, Nat.reduceEqDiff, Nat.reduceAdd, Nat.reduceMul, Nat.reduceLeDiff, Nat.le_refl, reduceIte, reduceCtorEq]; (repeat refine ⟨by omega, ?_⟩); refine η _ ?_; clear η κ) | (refine r_nil (hK _ ?_); clear hE hK E K) | refine q_seq ?_ | refine q_blk ?_ | refine c_skip ?_ | refine q_lpN ?_
      refine ⟨c.length - (k + 1), by omega, k + 1, rfl, by omega, fun j y hj hy => ?_, _, _, hF.trans hF2, nf_of rfl ⟨rfl, rfl, rfl, rfl, trivial⟩ trivial⟩
      rcases Nat.lt_or_eq_of_le (Nat.lt_succ_iff.1 hj) with h | rfl
      · exact hno j y h hy
      · rw [hx] at hy
        cases hy
        rw [decide_eq_true c1]
        rfl
    · rw [decide_eq_false c1]
      have he : lastP p n = holdP p x := by
        unfold lastP
        rw [hgd, find_at hx (by rw [decide_eq_false c1]; rfl) hno]
      repeat' first | (refine r_opN fun κ η => ?_; simp only [go_sem, Nat.reduceLT, Nat.reduceEqDiff, Nat.reduceAdd, Nat.reduceMul, Nat.reduceLeDiff, Nat.le_refl, reduceIte, reduceCtorEq]; refine η _ ?_; clear η κ) | (refine r_nil (hK _ ?_); clear hE hK E K) | refine q_seq ?_
      refine c_cond _ rfl (fun hq => ?_) (fun hq => (by cases hq))
      repeat' first | refine c_seq ?_ | refine c_reg' rfl fun K E hK hE => ?_ | (refine r_opN fun κ η => ?_; simp only [go_sem, Nat.reduceLT, Nat.reduceEqDiff, Nat.reduceAdd, Nat.reduceMul, Nat.reduceLeDiff, Nat.le_refl, reduceIte, reduceCtorEq]; refine η _ ?_; clear η κ)
      refine r_call fun κ η => ?_; simp only [go_sem, Nat.reduceLT, Nat.reduceEqDiff, Nat.reduceAdd, Nat.reduceMul, Nat.reduceLeDiff, Nat.le_refl, reduceIte, reduceCtorEq]; refine ⟨_, hold_cm Hy hP x hx6 ht, ?_⟩; rintro _ o3 ⟨rfl, hP3, hF3⟩; simp only [go_sem, Nat.reduceLT, Nat.reduceEqDiff, Nat.reduceAdd, Nat.reduceMul, Nat.reduceLeDiff, Nat.le_refl, reduceIte, reduceCtorEq]; refine η _ ?_; clear η κ
      repeat' first | (refine r_nil (hK _ ?_); clear hE hK E K) | refine q_seq ?_ | refine c_ret ?_ | refine q_seqR ?_ | refine q_blkR ?_ | refine q_lpR ?_ | (refine q_ret ?_; refine q_r0 ?_; simp only [go_sem, Nat.reduceLT, Nat.reduceEqDiff, Nat.reduceAdd, Nat.reduceMul, Nat.reduceLeDiff, Nat.le_refl, reduceIte, reduceCtorEq])
      rw [he]
      exact ⟨hP3, (hF.mono (by simp)).trans ((hF2.mono (by simp)).trans hF3)⟩
  · simp only [decide_eq_false_iff_not] at hq
    have he : lastP p n = { p with cf := true } := by
      unfold lastP
      rw [hgd, List.find?_eq_none.2 fun y hy => by
        obtain ⟨j, hj⟩ := List.getElem?_of_mem hy
        have := (List.getElem?_eq_some_iff.1 hj).1
        rw [hno j y (by omega) hj]
        decide]
    repeat' first | refine c_reg' rfl fun K E hK hE => ?_ | (refine r_opN fun κ η => ?_; simp only [go_sem, Nat.reduceLT, Nat.reduceEqDiff, Nat.reduceAdd, Nat.reduceMul, Nat.reduceLeDiff, Nat.le_refl, reduceIte, reduceCtorEq, hb]; (repeat refine ⟨by omega, ?_⟩); refine η _ ?_; clear η κ) | (refine r_nil (hK _ ?_); clear hE hK E K) | refine q_seq ?_ | refine c_exit ?_ | refine q_seqE ?_ | refine q_blkHit ?_ | refine q_lpE ?_ | (refine q_end ?_; refine q_r0 ?_; simp only [go_sem, Nat.reduceLT, Nat.reduceEqDiff, Nat.reduceAdd, Nat.reduceMul, Nat.reduceLeDiff, Nat.le_refl, reduceIte, reduceCtorEq, hb])
    rw [he]
    refine ⟨⟨g5, hP.rest rfl rfl rfl rfl hP.l hP.s hP.t fun i hi => lookO_other ?_⟩, (hF.mono (by simp)).trans (fr_nf (by simp))⟩
    simp
    omega
end Go.Proofs.Ytfflfmpkjcomgaa
namespace Go.Proofs.Ytfflfmpkjcomgaa
open Go.RowKit
set_option maxRecDepth 100000
/-- what holds, where these clauses do, and these literals -/
inductive Un (l : List (List Int)) (G : Int → Prop) : Int → Prop
  | given {x : Int} (h : G x) : Un l G x
  | unit {c : List Int} {x : Int} (hc : c ∈ l) (hx : x ∈ c) (h : ∀ y ∈ c, y ≠ x → Un l G (0 - y)) : Un l G x
def Confl (l : List (List Int)) (G : Int → Prop) : Prop := (∃ x, Un l G x ∧ Un l G (0 - x)) ∨ ∃ c ∈ l, ∀ y ∈ c, Un l G (0 - y)
theorem Un.mono {l l' : List (List Int)} {G G' : Int → Prop} (hl : ∀ c ∈ l, ∃ c' ∈ l', ∀ y, y ∈ c ↔ y ∈ c') (hG : ∀ x, G x → Un l' G' x) {x : Int} (h : Un l G x) : Un l' G' x := by
  induction h with
  | given h => exact hG _ h
  | unit hc hx _ ih =>
    obtain ⟨c', h1, h2⟩ := hl _ hc
    exact .unit h1 ((h2 _).1 hx) fun y hy hne => ih y ((h2 y).2 hy) hne
theorem Confl.mono {l l' : List (List Int)} {G G' : Int → Prop} (hl : ∀ c ∈ l, ∃ c' ∈ l', ∀ y, y ∈ c ↔ y ∈ c') (hG : ∀ x, G x → Un l' G' x) (h : Confl l G) : Confl l' G' := by
  rcases h with ⟨x, h1, h2⟩ | ⟨c, hc, h⟩
  · exact .inl ⟨x, h1.mono hl hG, h2.mono hl hG⟩
  · obtain ⟨c', k1, k2⟩ := hl c hc
    exact .inr ⟨c', k1, fun y hy => (h y ((k2 y).2 hy)).mono hl hG⟩
/-- how many of a clause's literals are not turned ones of these -/
def cnt (t : List Int) (c : List Int) : Nat := (c.filter fun y => !decide (0 - y ∈ t)).length
theorem cnt_le {t : List Int} {c : List Int} : cnt t c ≤ c.length := List.length_filter_le _ _
theorem cnt_mono {t t' : List Int} {c : List Int} (h : ∀ y ∈ t, y ∈ t') : cnt t' c ≤ cnt t c := by
  unfold cnt
  induction c with
  | nil => exact Nat.le_refl _
  | cons x c ih =>
    rw [List.filter_cons, List.filter_cons]
    by_cases h1 : 0 - x ∈ t
    · rw [decide_eq_true h1, decide_eq_true (h _ h1)]
      exact ih
    · rw [decide_eq_false h1]
      split
      · simp only [Bool.not_false, if_true, List.length_cons]
        omega
      · simp only [Bool.not_false, if_true, List.length_cons]
        omega
theorem cnt_one {t : List Int} {c : List Int} {x y : Int} (h : cnt t c ≤ 1) (hx : x ∈ c) (hy : y ∈ c) (hxt : 0 - x ∉ t) (hyt : 0 - y ∉ t) : x = y := by
  have h1 : x ∈ c.filter fun y => !decide (0 - y ∈ t) := List.mem_filter.2 ⟨hx, by rw [decide_eq_false hxt]; rfl⟩
  have h2 : y ∈ c.filter fun y => !decide (0 - y ∈ t) := List.mem_filter.2 ⟨hy, by rw [decide_eq_false hyt]; rfl⟩
  unfold cnt at h
  generalize (c.filter fun y => !decide (0 - y ∈ t)) = l at *
  match l with
  | [] => cases h1
  | [z] => rw [List.mem_singleton.1 h1, List.mem_singleton.1 h2]
  | _ :: _ :: _ => simp at h
theorem cnt_turned {t : List Int} {c : List Int} {x : Int} (hc : c.Nodup) (h : ∀ y ∈ c, y ≠ x → 0 - y ∈ t) : cnt t c ≤ 1 := by
  unfold cnt
  have : ∀ y ∈ c.filter (fun y => !decide (0 - y ∈ t)), y = x := fun y hy => by
    obtain ⟨h1, h2⟩ := List.mem_filter.1 hy
    refine Classical.byContradiction fun hne => ?_
    rw [decide_eq_true (h y h1 hne)] at h2
    cases h2
  have hn : (c.filter fun y => !decide (0 - y ∈ t)).Nodup := hc.sublist List.filter_sublist
  generalize (c.filter fun y => !decide (0 - y ∈ t)) = l at *
  match l with
  | [] => exact Nat.zero_le _
  | [z] => exact Nat.le_refl _
  | a :: b :: l =>
    have e1 := this a (by simp)
    have e2 := this b (by simp)
    rw [List.nodup_cons] at hn
    exact absurd (by rw [e1, e2]; simp) hn.1
theorem cnt_snoc {t : List Int} {c : List Int} {x : Int} (hc : c.Nodup) (hx : x ∉ t) : (cnt (t ++ [x]) c : Int) = if 0 - x ∈ c then (cnt t c : Int) - 1 else cnt t c := by
  unfold cnt
  induction c with
  | nil => rfl
  | cons y c ih =>
    rw [List.nodup_cons] at hc
    have ih := ih hc.2
    rw [List.filter_cons, List.filter_cons]
    by_cases h0 : 0 - y = x
    · have hy : y = 0 - x := by omega
      have hnc : 0 - x ∉ c := hy ▸ hc.1
      rw [if_neg hnc] at ih
      have hm : 0 - x ∈ y :: c := by rw [hy]; exact List.mem_cons_self
      rw [decide_eq_true (show 0 - y ∈ t ++ [x] by rw [h0]; simp), decide_eq_false (show ¬ 0 - y ∈ t by rw [h0]; exact hx), if_pos hm]
      simp only [Bool.not_true, Bool.not_false, if_true, Bool.false_eq_true, if_false, List.length_cons]
      omega
    · have hm : (0 - x ∈ y :: c) ↔ 0 - x ∈ c := by
        rw [List.mem_cons]
        exact ⟨fun h => h.resolve_left (by omega), .inr⟩
      have hd : decide (0 - y ∈ t ++ [x]) = decide (0 - y ∈ t) := by
        refine decide_eq_decide.2 ?_
        rw [List.mem_append, List.mem_singleton]
        exact ⟨fun h => h.resolve_right h0, .inl⟩
      rw [hd]
      simp only [hm]
      cases hq : decide (0 - y ∈ t) with
      | true => simpa using ih
      | false =>
        simp only [Bool.not_false, if_true, List.length_cons]
        split
        · rename_i h; rw [if_pos h] at ih; omega
        · rename_i h; rw [if_neg h] at ih; omega
def hasOf (p : Pv) (x : Int) : List Int := if x ∈ p.hk then p.hv x else []
/-- a literal of so many variables -/
def LitV (V : Int) (x : Int) : Prop := x ≠ 0 ∧ 0 - V ≤ x ∧ x ≤ V
theorem LitV.neg {V x : Int} (h : LitV V x) : LitV V (0 - x) := by unfold LitV at *; omega
def whereIs (cs : List (List Int)) (x : Int) : List Int := ((List.range cs.length).filter fun n => decide (x ∈ cs.getD n [])).map fun n : Nat => (n : Int)
/-- a prover as it should be: of so many variables -/
structure Wf (V : Int) (p : Pv) : Prop where
  cl : ∀ c ∈ p.cs, c.Nodup ∧ ∀ x ∈ c, LitV V x
  hk : p.hk.Nodup
  hv : ∀ x, hasOf p x = whereIs p.cs x
  tb : ∀ x ∈ p.tr, LitV V x
  tn : p.tr.Nodup
  tc : ∀ x ∈ p.tr, 0 - x ∉ p.tr
  w0 : 0 ≤ p.wn
  w1 : p.wn ≤ p.tr.length
  lf : p.lf = p.cs.map fun c => (cnt (p.tr.take p.wn.toNat) c : Int)
/-- clauses of which but one literal is turned have one that holds -/
def Sat (p : Pv) : Prop := p.cf = true ∨ ∀ c ∈ p.cs, cnt (p.tr.take p.wn.toNat) c ≤ 1 → ∃ y ∈ c, y ∈ p.tr
/-- what is found holds -/
def Snd (p : Pv) (G : Int → Prop) : Prop := (∀ x ∈ p.tr, Un p.cs G x) ∧ (p.cf = true → Confl p.cs G)
/-- all is found -/
theorem done_un {V : Int} {p : Pv} {G : Int → Prop} (hw : Wf V p) (hs : Sat p) (hsn : Snd p G) (hG : ∀ x, G x → x ∈ p.tr) (hd : p.wn = p.tr.length) (hc : p.cf = false) : (∀ x, Un p.cs G x ↔ x ∈ p.tr) ∧ ¬ Confl p.cs G := by
  have hs' := hs.resolve_left (by rw [hc]; decide)
  rw [hd, Int.toNat_natCast, List.take_length] at hs'
  have key : ∀ x, Un p.cs G x → x ∈ p.tr := fun x h => by
    induction h with
    | given h => exact hG _ h
    | unit hcl hx _ ih =>
      rename_i c x _
      obtain ⟨y, h1, h2⟩ := hs' c hcl (cnt_turned (hw.cl c hcl).1 fun y hy hne => ih y hy hne)
      by_cases he : y = x
      · exact he ▸ h2
      · exact absurd (ih y h1 he) (hw.tc y h2)
  refine ⟨fun x => ⟨key x, hsn.1 x⟩, ?_⟩
  rintro (⟨x, h1, h2⟩ | ⟨c, hcl, h⟩)
  · exact hw.tc x (key x h1) (key _ h2)
  · obtain ⟨y, h1, h2⟩ := hs' c hcl (cnt_turned (x := 0) (hw.cl c hcl).1 fun y hy _ => key _ (h y hy))
    exact hw.tc y h2 (key _ (h y h1))
theorem take_mem {l : List Int} {n : Nat} {x : Int} (h : x ∈ l.take n) : x ∈ l := List.take_subset _ _ h
/-- one more that holds -/
structure Ext (p p' : Pv) : Prop where
  cs : p'.cs = p.cs
  lf : p'.lf = p.lf
  hk : p'.hk = p.hk
  hv : p'.hv = p.hv
  wn : p'.wn = p.wn
  tr : ∃ t, p'.tr = p.tr ++ t
  cf : p.cf = true → p'.cf = true
theorem Ext.refl (p : Pv) : Ext p p := ⟨rfl, rfl, rfl, rfl, rfl, ⟨[], (List.append_nil _).symm⟩, id⟩
theorem hold_ext (p : Pv) (x : Int) : Ext p (holdP p x) := by
  unfold holdP
  split
  · exact ⟨rfl, rfl, rfl, rfl, rfl, ⟨[], (List.append_nil _).symm⟩, fun _ => rfl⟩
  · split
    · exact Ext.refl p
    · exact ⟨rfl, rfl, rfl, rfl, rfl, ⟨[x], rfl⟩, id⟩
theorem last_ext (p : Pv) (n : Nat) : Ext p (lastP p n) := by
  unfold lastP
  split
  · exact hold_ext p _
  · exact ⟨rfl, rfl, rfl, rfl, rfl, ⟨[], (List.append_nil _).symm⟩, fun _ => rfl⟩
/-- what does not speak of how many are left -/
structure Wt (V : Int) (p : Pv) : Prop where
  tb : ∀ x ∈ p.tr, LitV V x
  tn : p.tr.Nodup
  tc : ∀ x ∈ p.tr, 0 - x ∉ p.tr
theorem Wf.wt {V : Int} {p : Pv} (h : Wf V p) : Wt V p := ⟨h.tb, h.tn, h.tc⟩
theorem hold_wt {V : Int} {p : Pv} (h : Wt V p) {x : Int} (hx : LitV V x) : Wt V (holdP p x) := by
  unfold holdP
  split
  · exact ⟨h.tb, h.tn, h.tc⟩
  · rename_i h1
    split
    · exact h
    · rename_i h2
      refine ⟨fun y hy => ?_, ?_, fun y hy => ?_⟩
      · rcases List.mem_append.1 hy with hy | hy
        · exact h.tb y hy
        · rw [List.mem_singleton.1 hy]; exact hx
      · show (p.tr ++ [x]).Nodup
        rw [List.nodup_append]
        refine ⟨h.tn, by simp, fun a ha b hb => ?_⟩
        rw [List.mem_singleton.1 hb]
        rintro rfl
        exact h2 ha
      · show 0 - y ∉ p.tr ++ [x]
        rw [List.mem_append, List.mem_singleton]
        rcases List.mem_append.1 hy with hy | hy
        · rintro (h3 | h3)
          · exact h.tc y hy h3
          · exact h1 (by rw [← h3, show 0 - (0 - y) = y by omega]; exact hy)
        · rw [List.mem_singleton.1 hy]
          rintro (h3 | h3)
          · exact h1 h3
          · have := hx.1
            omega
theorem hold_snd {p : Pv} {G : Int → Prop} (h : Snd p G) {x : Int} (hx : Un p.cs G x) : Snd (holdP p x) G := by
  unfold holdP
  split
  · rename_i h1
    exact ⟨h.1, fun _ => .inl ⟨x, hx, h.1 _ h1⟩⟩
  · split
    · exact h
    · refine ⟨fun y hy => ?_, h.2⟩
      rcases List.mem_append.1 hy with hy | hy
      · exact h.1 y hy
      · rw [List.mem_singleton.1 hy]; exact hx
theorem last_wt {V : Int} {p : Pv} (h : Wt V p) {n : Nat} {c : List Int} (hc : p.cs[n]? = some c) (hcl : ∀ x ∈ c, LitV V x) : Wt V (lastP p n) := by
  unfold lastP
  rw [List.getD_eq_getElem?_getD, hc, Option.getD_some]
  split
  · rename_i x hx
    exact hold_wt h (hcl x (List.mem_of_find?_eq_some hx))
  · exact ⟨h.tb, h.tn, h.tc⟩
/-- the last literal of a clause is held rightly, and then the clause has one that holds, or there is a conflict -/
theorem last_snd {p : Pv} {G : Int → Prop} (h : Snd p G) {n : Nat} {c : List Int} (hc : p.cs[n]? = some c) {t : List Int} (ht : ∀ y ∈ t, y ∈ p.tr) (h1 : cnt t c ≤ 1) : Snd (lastP p n) G := by
  unfold lastP
  rw [List.getD_eq_getElem?_getD, hc, Option.getD_some]
  split
  · rename_i x hx
    have hxc := List.mem_of_find?_eq_some hx
    have hxn : 0 - x ∉ p.tr := by
      have := List.find?_some hx
      simpa using this
    refine hold_snd h (.unit (List.mem_of_getElem? hc) hxc fun y hy hne => h.1 _ ?_)
    refine Classical.byContradiction fun hyn => hne ?_
    exact cnt_one h1 hy hxc (fun e => hyn (ht _ e)) (fun e => hxn (ht _ e))
  · rename_i hnone
    refine ⟨h.1, fun _ => .inr ⟨c, List.mem_of_getElem? hc, fun y hy => h.1 _ ?_⟩⟩
    have := List.find?_eq_none.1 hnone y hy
    simpa using this
theorem last_sat {p : Pv} {n : Nat} {c : List Int} (hc : p.cs[n]? = some c) : (lastP p n).cf = true ∨ ∃ y ∈ c, y ∈ (lastP p n).tr := by
  unfold lastP
  rw [List.getD_eq_getElem?_getD, hc, Option.getD_some]
  split
  · rename_i x hx
    have hxn : 0 - x ∉ p.tr := by
      have := List.find?_some hx
      simpa using this
    right
    refine ⟨x, List.mem_of_find?_eq_some hx, ?_⟩
    unfold holdP
    rw [if_neg hxn]
    split
    · rename_i h; exact h
    · exact List.mem_append_right _ List.mem_cons_self
  · exact .inl rfl
end Go.Proofs.Ytfflfmpkjcomgaa
namespace Go.Proofs.Ytfflfmpkjcomgaa
open Go.RowKit
set_option maxRecDepth 100000
set_option linter.unusedSimpArgs false
variable (Hy : World → Prop)
attribute [local irreducible] runM runD cwp seqQ blkQ lpQ retQ asQ bdQ bdY retP
theorem nodup_lt : ∀ (n : Nat) (l : List Nat), l.Nodup → (∀ x ∈ l, x < n) → l.length ≤ n
  | 0, l, _, h => by
    cases l with
    | nil => exact Nat.le_refl _
    | cons x l => exact absurd (h x List.mem_cons_self) (Nat.not_lt_zero _)
  | n + 1, l, hn, h => by
    by_cases hm : n ∈ l
    · have := nodup_lt n (l.erase n) (hn.erase n) (fun x hx => by
        have h1 := h x (List.mem_of_mem_erase hx)
        have h2 : x ≠ n := fun e => by
          subst e
          exact absurd hx (List.Nodup.not_mem_erase hn)
        omega)
      rw [List.length_erase_of_mem hm] at this
      omega
    · have := nodup_lt n l hn (fun x hx => by
        have h1 := h x hx
        have h2 : x ≠ n := fun e => hm (e ▸ hx)
        omega)
      omega
theorem lits_len {V : Int} {l : List Int} (hn : l.Nodup) (hb : ∀ x ∈ l, LitV V x) (hV : 0 ≤ V) : (l.length : Int) ≤ 2 * V + 1 := by
  have h1 : (l.map fun x => (x + V).toNat).Nodup := by
    unfold List.Nodup at hn ⊢
    rw [List.pairwise_map]
    exact hn.imp_of_mem fun ha hb' hne => by
      have := hb _ ha
      have := hb _ hb'
      unfold LitV at *
      omega
  have := nodup_lt (2 * V + 1).toNat _ h1 (fun y hy => by
    obtain ⟨x, hx, rfl⟩ := List.mem_map.1 hy
    have := hb x hx
    unfold LitV at this
    omega)
  rw [List.length_map] at this
  omega
/-- a prover on its way, from what it was -/
structure Good (V : Int) (G : Int → Prop) (p0 p : Pv) : Prop where
  w : Wf V p
  s : Sat p
  n : Snd p G
  cs : p.cs = p0.cs
  hk : p.hk = p0.hk
  hv : p.hv = p0.hv
  tr : ∃ t, p.tr = p0.tr ++ t
  wn : p0.wn ≤ p.wn
  cf : p0.cf = true → p.cf = true
def idsP : List Nat := [900, 902, 904, 905, 908, 910, 911]
/-- what a round of propagate comes to -/
def YP (V : Int) (G : Int → Prop) (p0 : Pv) (g1 g2 : Nat) (hg : Int → Nat) (oS : Nat → O) (g0 g11 : Nat) : YC := fun args o Rb => ∃ p x g5, args = [.t (.i .i64 x)] ∧ Prv o { p with wn := p.wn + 1 } g1 g2 g5 hg ∧ Good V G p0 p ∧ p.cf = false ∧ p.tr[p.wn.toNat]? = some x ∧ Fr idsP oS o ∧ o 911 = ⟨g11, .cells 47 [.ptr 900 1 0]⟩ ∧ o 910 = ⟨g0, .cells 47 [.ptr 900 1 0]⟩ ∧
  ∀ o2 p2 g, Prv o2 p2 g1 g2 g hg → Good V G p0 p2 → p2.wn = p.wn + 1 → Fr idsP oS o2 → o2 911 = ⟨g11, .cells 47 [.ptr 900 1 0]⟩ → o2 910 = ⟨g0, .cells 47 [.ptr 900 1 0]⟩ → Rb o2
theorem Prv.wn1 {o o' : Nat → O} {p : Pv} {g1 g2 g5 : Nat} {hg : Int → Nat} (hP : Prv o p g1 g2 g5 hg) (n : Int) (hb : o' 900 = ⟨1, .cells 53 [.row 901 g1, .row 902 g2, .row 903 1, .row 904 1, .row 905 g5, .t (.i .i64 n), .t (.b p.cf)]⟩) (h : ∀ i, i ≠ 900 → o' i = o i) : Prv o' { p with wn := n } g1 g2 g5 hg := by
  obtain ⟨h1, h2, h3, h4, h5, h6, h7⟩ := hP
  exact ⟨hb, by rw [h _ (by decide)]; exact h2, by rw [h _ (by decide)]; exact h3, by rw [h _ (by decide)]; exact h4, fun x hx => by rw [h _ (by have := hid_ge x; omega)]; exact h5 x hx, by rw [h _ (by decide)]; exact h6, by rw [h _ (by decide)]; exact h7⟩
set_option maxHeartbeats 1000000 in
theorem goesOn_it {V : Int} {G : Int → Prop} {p0 p : Pv} {g1 g2 g5 g0 g11 : Nat} {hg : Int → Nat} {oS o : Nat → O} (hV : 0 ≤ V ∧ V ≤ 20000) (hP : Prv o p g1 g2 g5 hg) (hgood : Good V G p0 p) (hF : Fr idsP oS o) (h11 : o 911 = ⟨g11, .cells 47 [.ptr 900 1 0]⟩) (h10 : o 910 = ⟨g0, .cells 47 [.ptr 900 1 0]⟩) (l : Nat) :
    CmY Try.prog Hy 78 l (YP V G p0 g1 g2 hg oS g0 g11) [.t (.yl l), .ptr 911 g11 0] o fun rs o' => rs = [] ∧ ∃ p' g, Prv o' p' g1 g2 g hg ∧ Good V G p0 p' ∧ (p'.cf = true ∨ p'.wn = p'.tr.length) ∧ Fr idsP oS o' ∧ o' 910 = ⟨g0, .cells 47 [.ptr 900 1 0]⟩ := by
  refine cmY_of (cls := _root_.id) tt_ok follows_ Try.func78 rfl (by decide) (Nat.le_of_ble_eq_true rfl) ?_
  rw [show Try.f78.ntmps = 41 from rfl, s0_nf]
  simp only [List.zipIdx_cons, List.zipIdx_nil, List.map_cons, List.map_nil, Nat.reduceAdd]
  repeat' refine c_block ?_
  refine c_loop (fun m s' => ∃ p F oc g5, m = (2 * V + 2 - p.wn).toNat ∧ s' = nf 41 F oc [(0, .t (.yl l)), (1, .ptr 911 g11 0)] [] ∧ Prv oc p g1 g2 g5 hg ∧ Good V G p0 p ∧ Fr idsP oS oc ∧ oc 911 = ⟨g11, .cells 47 [.ptr 900 1 0]⟩ ∧ oc 910 = ⟨g0, .cells 47 [.ptr 900 1 0]⟩) (2 * V + 2 - p.wn).toNat ?_ ?_
  · exact ⟨p, _, _, g5, rfl, nf_of rfl ⟨rfl, rfl, trivial⟩ trivial, hP, hgood, hF, h11, h10⟩
  clear hP hgood hF h11 h10 p g5
  rintro m s' ⟨p, F, oc, g5, rfl, rfl, hP, hgood, hF, h11, h10⟩
  have hb := hP.b
  have ht := hP.t
  have hlen := lits_len hgood.w.tn hgood.w.tb hV.1
  have w0 := hgood.w.w0
  have w1 := hgood.w.w1
  by_cases c1 : p.wn < p.tr.length
  · by_cases c2 : p.cf = true
    · repeat' first | refine c_seq ?_ | refine c_draw' rfl (by kernel_rfl) fun K E hK hE => ?_ | ((first | refine d_opN (by kernel_rfl) fun κ η => ?_ | refine d_opG (by kernel_rfl) rfl fun κ η => ?_); simp only [go_sem, Nat.reduceLT, Nat.reduceEqDiff, Nat.reduceAdd, Nat.reduceMul, Nat.reduceLeDiff, Nat.le_refl, reduceIte, reduceCtorEq, h11, hb, ht, c1, c2]; (repeat refine ⟨by omega, ?_⟩); refine η _ ?_; clear η κ) | refine q_seq ?_ | (refine d_nil (hK _ ?_); clear hE hK E K)
      refine c_cond _ rfl (fun hq => (by cases hq)) (fun hq => ?_)
      repeat' first | refine c_exit ?_ | refine q_seqE ?_ | refine q_blkHit ?_ | refine q_lpE ?_ | (refine q_end ?_; refine q_r0 ?_; simp only [go_sem, Nat.reduceLT, Nat.reduceEqDiff, Nat.reduceAdd, Nat.reduceMul, Nat.reduceLeDiff, Nat.le_refl, reduceIte, reduceCtorEq])
      exact ⟨p, g5, hP, hgood, .inl c2, hF, h10⟩
    · have c2 : p.cf = false := by simpa using c2
      repeat' first | refine c_seq ?_ | refine c_draw' rfl (by kernel_rfl) fun K E hK hE => ?_ | ((first | refine d_opN (by kernel_rfl) fun κ η => ?_ | refine d_opG (by kernel_rfl) rfl fun κ η => ?_); simp only [go_sem, Nat.reduceLT, Nat.reduceEqDiff, Nat.reduceAdd, Nat.reduceMul, Nat.reduceLeDiff, Nat.le_refl, reduceIte, reduceCtorEq, h11, hb, ht, c1, c2]; (repeat refine ⟨by omega, ?_⟩); refine η _ ?_; clear η κ) | refine q_seq ?_ | (refine d_nil (hK _ ?_); clear hE hK E K)
      refine c_cond _ rfl (fun hq => ?_) (fun hq => (by cases hq))
      obtain ⟨x, hx⟩ : ∃ x, p.tr[p.wn.toNat]? = some x := ⟨_, List.getElem?_eq_getElem (by omega)⟩
      have hx1 : p.tr[(p.wn + 1 - 1).toNat]? = some x := by rw [show p.wn + 1 - 1 = p.wn by omega]; exact hx
      repeat' first | refine c_seq ?_ | refine c_block ?_ | refine c_reg' rfl fun K E hK hE => ?_ | refine c_draw' rfl (by kernel_rfl) fun K E hK hE => ?_ | ((first | refine r_opN fun κ η => ?_ | refine d_opN (by kernel_rfl) fun κ η => ?_); simp only [go_sem, Nat.reduceLT, Nat.reduceEqDiff, Nat.reduceAdd, Nat.reduceMul, Nat.reduceLeDiff, Nat.le_refl, reduceIte, reduceCtorEq, h11, hb, ht, hx1]; (repeat refine ⟨by omega, ?_⟩); refine η _ ?_; clear η κ) | (refine r_nil (hK _ ?_); clear hE hK E K) | refine q_seq ?_ | refine c_skip ?_
      refine d_yield hE (by kernel_rfl) fun κ η => ?_; simp only [go_sem, Nat.reduceLT, Nat.reduceEqDiff, Nat.reduceAdd, Nat.reduceMul, Nat.reduceLeDiff, Nat.le_refl, reduceIte, reduceCtorEq]
      refine ⟨fun o2 => ∃ p2 g, Prv o2 p2 g1 g2 g hg ∧ Good V G p0 p2 ∧ p2.wn = p.wn + 1 ∧ Fr idsP oS o2 ∧ o2 911 = ⟨g11, .cells 47 [.ptr 900 1 0]⟩ ∧ o2 910 = ⟨g0, .cells 47 [.ptr 900 1 0]⟩, ?_, ?_⟩
      · refine ⟨p, x, g5, rfl, hP.wn1 _ rfl (fun i hi => lookO_other (by simp; omega)), hgood, c2, hx, hF.trans (fr_nf (by simp [idsP])), h11, h10, fun o2 p2 g k1 k2 k3 k4 k5 k6 => ⟨p2, g, k1, k2, k3, k4, k5, k6⟩⟩
      rintro o2 ⟨p2, g, k1, k2, k3, k4, k5, k6⟩
      refine η _ ?_
      clear η κ
      repeat' first | (refine d_opN (by kernel_rfl) fun κ η => ?_; simp only [go_sem, Nat.reduceLT, Nat.reduceEqDiff, Nat.reduceAdd, Nat.reduceMul, Nat.reduceLeDiff, Nat.le_refl, reduceIte, reduceCtorEq]; refine η _ ?_; clear η κ) | refine q_seq ?_ | (refine d_nil (hK _ ?_); clear hE hK E K)
      refine c_cond _ rfl (fun hq => (by cases hq)) (fun hq => ?_)
      repeat' first | refine q_blk ?_ | refine c_skip ?_ | refine q_lpN ?_
      refine ⟨(2 * V + 2 - p2.wn).toNat, by omega, p2, _, _, g, rfl, nf_of rfl ⟨rfl, rfl, trivial⟩ trivial, k1, k2, k4, k5, k6⟩
  · repeat' first | refine c_seq ?_ | refine c_draw' rfl (by kernel_rfl) fun K E hK hE => ?_ | ((first | refine d_opN (by kernel_rfl) fun κ η => ?_ | refine d_opG (by kernel_rfl) rfl fun κ η => ?_); simp only [go_sem, Nat.reduceLT, Nat.reduceEqDiff, Nat.reduceAdd, Nat.reduceMul, Nat.reduceLeDiff, Nat.le_refl, reduceIte, reduceCtorEq, h11, hb, ht, c1]; (repeat refine ⟨by omega, ?_⟩); refine η _ ?_; clear η κ) | refine q_seq ?_ | (refine d_nil (hK _ ?_); clear hE hK E K)
    refine c_cond _ rfl (fun hq => (by cases hq)) (fun hq => ?_)
    repeat' first | refine c_exit ?_ | refine q_seqE ?_ | refine q_blkHit ?_ | refine q_lpE ?_ | (refine q_end ?_; refine q_r0 ?_; simp only [go_sem, Nat.reduceLT, Nat.reduceEqDiff, Nat.reduceAdd, Nat.reduceMul, Nat.reduceLeDiff, Nat.le_refl, reduceIte, reduceCtorEq])
    exact ⟨p, g5, hP, hgood, .inr (by omega), hF, h10⟩
end Go.Proofs.Ytfflfmpkjcomgaa
namespace Go.Proofs.Ytfflfmpkjcomgaa
open Go.RowKit
set_option maxRecDepth 100000
set_option linter.unusedSimpArgs false
variable (Hy : World → Prop)
attribute [local irreducible] runM runD cwp seqQ blkQ lpQ retQ asQ bdQ bdY retP
theorem where_mem {cs : List (List Int)} {x n : Int} : n ∈ whereIs cs x ↔ ∃ k : Nat, n = k ∧ ∃ c, cs[k]? = some c ∧ x ∈ c := by
  unfold whereIs
  rw [List.mem_map]
  constructor
  · rintro ⟨k, hk, rfl⟩
    obtain ⟨h1, h2⟩ := List.mem_filter.1 hk
    have hl := List.mem_range.1 h1
    refine ⟨k, rfl, cs[k], List.getElem?_eq_getElem hl, ?_⟩
    have := of_decide_eq_true h2
    rw [List.getD_eq_getElem?_getD, List.getElem?_eq_getElem hl] at this
    exact this
  · rintro ⟨k, rfl, c, hc, hx⟩
    have hl := (List.getElem?_eq_some_iff.1 hc).1
    refine ⟨k, List.mem_filter.2 ⟨List.mem_range.2 hl, decide_eq_true ?_⟩, rfl⟩
    rw [List.getD_eq_getElem?_getD, hc]
    exact hx
theorem where_nodup (cs : List (List Int)) (x : Int) : (whereIs cs x).Nodup := by
  unfold whereIs List.Nodup
  rw [List.pairwise_map]
  have : ((List.range cs.length).filter fun n => decide (x ∈ cs.getD n [])).Nodup := List.nodup_range.sublist List.filter_sublist
  exact List.Pairwise.imp (fun h e => h (by omega)) this
theorem nodup_take {l : List Int} (h : l.Nodup) {k : Nat} {n : Int} (hk : l[k]? = some n) : n ∉ l.take k := fun hm => by
  obtain ⟨j, hj⟩ := List.getElem?_of_mem hm
  have hjk : j < k := by
    have := (List.getElem?_eq_some_iff.1 hj).1
    rw [List.length_take] at this
    omega
  rw [List.getElem?_take_of_lt hjk] at hj
  have := (List.getElem?_inj (List.getElem?_eq_some_iff.1 hj).1 h).1 (hj.trans hk.symm)
  omega
/-- within a round: so many clauses are told of it -/
structure Mid (V : Int) (G : Int → Prop) (p : Pv) (x : Int) (k : Nat) (q : Pv) : Prop where
  cs : q.cs = p.cs
  hk : q.hk = p.hk
  hv : q.hv = p.hv
  wn : q.wn = p.wn + 1
  wt : Wt V q
  sn : Snd q G
  tr : ∃ t, q.tr = p.tr ++ t
  cf : p.cf = true → q.cf = true
  ll : q.lf.length = p.cs.length
  lf : ∀ (n : Nat) c, p.cs[n]? = some c → q.lf[n]? = some (if (n : Int) ∈ (whereIs p.cs (0 - x)).take k then (cnt (p.tr.take p.wn.toNat ++ [x]) c : Int) else cnt (p.tr.take p.wn.toNat) c)
  st : q.cf = true ∨ ∀ (n : Nat) c, p.cs[n]? = some c → ((n : Int) ∈ (whereIs p.cs (0 - x)).take k ∨ 0 - x ∉ c) → cnt (p.tr.take p.wn.toNat ++ [x]) c ≤ 1 → ∃ y ∈ c, y ∈ q.tr
theorem take_snoc {p : Pv} {x : Int} (h0 : 0 ≤ p.wn) (hx : p.tr[p.wn.toNat]? = some x) : p.tr.take (p.wn + 1).toNat = p.tr.take p.wn.toNat ++ [x] := by
  rw [show (p.wn + 1).toNat = p.wn.toNat + 1 by omega, List.take_add_one, hx]
  rfl
theorem x_new {V : Int} {p : Pv} {x : Int} (hw : Wf V p) (hx : p.tr[p.wn.toNat]? = some x) : x ∉ p.tr.take p.wn.toNat := nodup_take hw.tn hx
theorem mid_zero {V : Int} {G : Int → Prop} {p0 p : Pv} {x : Int} (h : Good V G p0 p) (hx : p.tr[p.wn.toNat]? = some x) : Mid V G p x 0 { p with wn := p.wn + 1 } := by
  refine ⟨rfl, rfl, rfl, rfl, ⟨h.w.tb, h.w.tn, h.w.tc⟩, h.n, ⟨[], (List.append_nil _).symm⟩, id, ?_, fun n c hc => ?_, ?_⟩
  · show p.lf.length = _
    rw [h.w.lf, List.length_map]
  · show p.lf[n]? = _
    rw [h.w.lf, List.getElem?_map, hc, if_neg (by simp)]
    rfl
  · rcases h.s with hs | hs
    · exact .inl hs
    · right
      intro n c hc hn h1
      have hnc : 0 - x ∉ c := hn.resolve_left (by simp)
      refine hs c (List.mem_of_getElem? hc) ?_
      have := cnt_snoc (h.w.cl c (List.mem_of_getElem? hc)).1 (x_new h.w hx)
      rw [if_neg hnc] at this
      omega
theorem mid_step {V : Int} {G : Int → Prop} {p0 p q : Pv} {x n : Int} {k : Nat} (h : Good V G p0 p) (hx : p.tr[p.wn.toNat]? = some x) (hm : Mid V G p x k q) (hn : (whereIs p.cs (0 - x))[k]? = some n) :
    ∃ c, p.cs[n.toNat]? = some c ∧ 0 ≤ n ∧ q.lf[n.toNat]? = some (cnt (p.tr.take p.wn.toNat) c : Int) ∧ (cnt (p.tr.take p.wn.toNat) c : Int) - 1 = cnt (p.tr.take p.wn.toNat ++ [x]) c ∧
      ∀ q1, q1 = { q with lf := q.lf.set n.toNat (cnt (p.tr.take p.wn.toNat ++ [x]) c : Int) } → Mid V G p x (k + 1) (if cnt (p.tr.take p.wn.toNat ++ [x]) c ≤ 1 then lastP q1 n.toNat else q1) := by
  obtain ⟨j, rfl, c, hc, hxc⟩ := where_mem.1 (List.mem_of_getElem? hn)
  rw [Int.toNat_natCast]
  have hnt := nodup_take (where_nodup p.cs (0 - x)) hn
  have hl := hm.lf j c hc
  rw [if_neg hnt] at hl
  have hcn := h.w.cl c (List.mem_of_getElem? hc)
  have hs := cnt_snoc hcn.1 (x_new h.w hx)
  rw [if_pos hxc] at hs
  refine ⟨c, hc, Int.natCast_nonneg j, hl, hs.symm, ?_⟩
  intro q1 hq1
  have htk : (whereIs p.cs (0 - x)).take (k + 1) = (whereIs p.cs (0 - x)).take k ++ [(j : Int)] := by rw [List.take_add_one, hn]; rfl
  have hjl := (List.getElem?_eq_some_iff.1 hc).1
  have hll := hm.ll
  have base : Mid V G p x k { q with lf := q.lf } := hm
  have h1 : ∀ q2, Ext q1 q2 → Wt V q2 → Snd q2 G → (q2.cf = true ∨ ∀ (n : Nat) c', p.cs[n]? = some c' → ((n : Int) ∈ (whereIs p.cs (0 - x)).take (k + 1) ∨ 0 - x ∉ c') → cnt (p.tr.take p.wn.toNat ++ [x]) c' ≤ 1 → ∃ y ∈ c', y ∈ q2.tr) → Mid V G p x (k + 1) q2 := fun q2 he hw hsn hst => by
    subst hq1
    refine ⟨he.cs.trans hm.cs, he.hk.trans hm.hk, he.hv.trans hm.hv, he.wn.trans hm.wn, hw, hsn, ?_, fun hc => he.cf (hm.cf hc), ?_, fun m c' hc' => ?_, hst⟩
    · obtain ⟨t1, e1⟩ := hm.tr
      obtain ⟨t2, e2⟩ := he.tr
      exact ⟨t1 ++ t2, by rw [e2]; show q.tr ++ t2 = _; rw [e1, List.append_assoc]⟩
    · rw [he.lf]
      show (q.lf.set _ _).length = _
      rw [List.length_set, hll]
    · rw [he.lf, htk]
      show (q.lf.set _ _)[m]? = _
      rw [List.getElem?_set]
      by_cases hjm : j = m
      · subst hjm
        rw [hc] at hc'
        cases hc'
        rw [if_pos rfl, if_pos (by omega), if_pos (List.mem_append_right _ List.mem_cons_self)]
      · rw [if_neg hjm, hm.lf m c' hc']
        have : ((m : Int) ∈ (whereIs p.cs (0 - x)).take k ++ [(j : Int)]) ↔ (m : Int) ∈ (whereIs p.cs (0 - x)).take k := by
          rw [List.mem_append, List.mem_singleton]
          exact ⟨fun h => h.resolve_right (by omega), .inl⟩
        simp only [this]
  have hq1cs : q1.cs[j]? = some c := by rw [hq1]; show q.cs[j]? = _; rw [hm.cs]; exact hc
  have hq1w : Wt V q1 := by rw [hq1]; exact ⟨hm.wt.tb, hm.wt.tn, hm.wt.tc⟩
  have hq1s : Snd q1 G := by rw [hq1]; exact ⟨hm.sn.1, hm.sn.2⟩
  have hsub : ∀ y ∈ p.tr.take p.wn.toNat ++ [x], y ∈ q1.tr := fun y hy => by
    obtain ⟨t, ht⟩ := hm.tr
    rw [hq1]
    show y ∈ q.tr
    rw [ht]
    refine List.mem_append_left _ ?_
    rcases List.mem_append.1 hy with hy | hy
    · exact take_mem hy
    · rw [List.mem_singleton.1 hy]
      exact List.mem_of_getElem? hx
  have old : q1.cf = true ∨ ∀ (n : Nat) c', p.cs[n]? = some c' → (((n : Int) ∈ (whereIs p.cs (0 - x)).take k) ∨ 0 - x ∉ c') → cnt (p.tr.take p.wn.toNat ++ [x]) c' ≤ 1 → ∃ y ∈ c', y ∈ q1.tr := by
    rw [hq1]
    exact hm.st
  by_cases hle : cnt (p.tr.take p.wn.toNat ++ [x]) c ≤ 1
  · rw [if_pos hle]
    have he := last_ext q1 j
    refine h1 _ he (last_wt hq1w hq1cs fun y hy => hcn.2 y hy) (last_snd hq1s hq1cs hsub hle) ?_
    rcases last_sat hq1cs with hs2 | hs2
    · exact .inl hs2
    · rcases old with ho | ho
      · exact .inl (he.cf ho)
      · right
        intro m c' hc' hmem hle'
        by_cases hmj : m = j
        · subst hmj
          rw [hc] at hc'
          cases hc'
          exact hs2
        · have hmem' : (m : Int) ∈ (whereIs p.cs (0 - x)).take k ∨ 0 - x ∉ c' := by
            rcases hmem with hmem | hmem
            · rw [htk] at hmem
              rcases List.mem_append.1 hmem with hmem | hmem
              · exact .inl hmem
              · have := List.mem_singleton.1 hmem
                omega
            · exact .inr hmem
          obtain ⟨y, y1, y2⟩ := ho m c' hc' hmem' hle'
          obtain ⟨t, ht⟩ := he.tr
          exact ⟨y, y1, by rw [ht]; exact List.mem_append_left _ y2⟩
  · rw [if_neg hle]
    refine h1 _ (Ext.refl q1) hq1w hq1s ?_
    rcases old with ho | ho
    · exact .inl ho
    · right
      intro m c' hc' hmem hle'
      by_cases hmj : m = j
      · subst hmj
        rw [hc] at hc'
        cases hc'
        exact absurd hle' hle
      · refine ho m c' hc' ?_ hle'
        rcases hmem with hmem | hmem
        · rw [htk] at hmem
          rcases List.mem_append.1 hmem with hmem | hmem
          · exact .inl hmem
          · have := List.mem_singleton.1 hmem
            omega
        · exact .inr hmem
theorem mid_end {V : Int} {G : Int → Prop} {p0 p q : Pv} {x : Int} (h : Good V G p0 p) (hx : p.tr[p.wn.toNat]? = some x) {k : Nat} (hk : (whereIs p.cs (0 - x)).length ≤ k) (hm : Mid V G p x k q) : Good V G p0 q ∧ q.wn = p.wn + 1 := by
  have htk : (whereIs p.cs (0 - x)).take k = whereIs p.cs (0 - x) := List.take_of_length_le hk
  have hts := take_snoc h.w.w0 hx
  obtain ⟨t, ht⟩ := hm.tr
  have hxl := (List.getElem?_eq_some_iff.1 hx).1
  have hql : q.tr.take q.wn.toNat = p.tr.take p.wn.toNat ++ [x] := by
    rw [ht, hm.wn, List.take_append_of_le_length (by have := h.w.w0; omega)]
    exact hts
  have w0 := h.w.w0
  obtain ⟨t0, ht0⟩ := h.tr
  refine ⟨⟨⟨?_, ?_, ?_, hm.wt.tb, hm.wt.tn, hm.wt.tc, ?_, ?_, ?_⟩, ?_, hm.sn, hm.cs.trans h.cs, hm.hk.trans h.hk, hm.hv.trans h.hv, ⟨t0 ++ t, by rw [ht, ht0, List.append_assoc]⟩, ?_, fun hc => hm.cf (h.cf hc)⟩, hm.wn⟩
  · rw [hm.cs]; exact h.w.cl
  · rw [hm.hk]; exact h.w.hk
  · intro y
    have := h.w.hv y
    unfold hasOf at this ⊢
    rw [hm.hk, hm.hv, hm.cs]
    exact this
  · rw [hm.wn]; omega
  · rw [hm.wn, ht, List.length_append]
    omega
  · refine List.ext_getElem? fun n => ?_
    rw [hql, List.getElem?_map, hm.cs]
    cases hc : p.cs[n]? with
    | none =>
      have := List.getElem?_eq_none_iff.1 hc
      rw [List.getElem?_eq_none (by rw [hm.ll]; exact this)]
      rfl
    | some c =>
      rw [hm.lf n c hc, htk]
      have hs := cnt_snoc (h.w.cl c (List.mem_of_getElem? hc)).1 (x_new h.w hx)
      by_cases hxc : 0 - x ∈ c
      · rw [if_pos (where_mem.2 ⟨n, rfl, c, hc, hxc⟩)]
        rfl
      · rw [if_neg (fun hmem => by
          obtain ⟨k', e, c', hc', hx'⟩ := where_mem.1 hmem
          have : n = k' := by omega
          subst this
          rw [hc] at hc'
          cases hc'
          exact hxc hx')]
        rw [if_neg hxc] at hs
        rw [Option.map_some, hs]
  · rcases hm.st with hs | hs
    · exact .inl hs
    · right
      intro c hcm h1
      rw [hm.cs] at hcm
      obtain ⟨n, hn⟩ := List.getElem?_of_mem hcm
      rw [hql] at h1
      refine hs n c hn ?_ h1
      rw [htk]
      by_cases hxc : 0 - x ∈ c
      · exact .inl (where_mem.2 ⟨n, rfl, c, hn, hxc⟩)
      · exact .inr hxc
  · rw [hm.wn]
    have := h.wn
    omega
end Go.Proofs.Ytfflfmpkjcomgaa
