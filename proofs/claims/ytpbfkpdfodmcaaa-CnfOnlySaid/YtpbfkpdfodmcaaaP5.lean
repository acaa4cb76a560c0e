import Derived.Test.YtpbfkpdfodmcaaaP4
namespace Go.Proofs.Ytpbfkpdfodmcaaa
open Go.RowKit
set_option linter.unusedSimpArgs false
theorem eithS_eq : ∀ {bs : List Int} {ss l : List Bool}, ss.length = bs.length → l.length = eithN bs → (∀ i, bs[i]? = some 2 → ss[i]? = l[eithN (bs.take i)]?) → eithS bs ss = l
  | [], [], l, _, hl, _ => by
    have : l.length = 0 := hl
    exact (List.length_eq_zero_iff.1 this).symm
  | b :: bs, s :: ss, l, hn, hl, h => by
    rw [eithN_cons] at hl
    show (if b = 2 then s :: eithS bs ss else eithS bs ss) = l
    by_cases hb : b = 2
    · rw [if_pos hb] at hl ⊢
      obtain ⟨y, l', rfl⟩ : ∃ y l', l = y :: l' := by
        cases l with
        | nil => cases hl
        | cons y l' => exact ⟨_, _, rfl⟩
      have h0 := h 0 (by rw [hb]; rfl)
      have e0 : some s = some y := h0
      rw [eithS_eq (bs := bs) (ss := ss) (l := l') (by simpa using hn) (by simpa using hl) (fun i hi => by
        have := h (i + 1) (by simpa using hi)
        rw [List.take_succ_cons, eithN_cons, if_pos hb] at this
        simpa using this), Option.some.inj e0]
    · rw [if_neg hb] at hl ⊢
      exact eithS_eq (by simpa using hn) hl (fun i hi => by
        have := h (i + 1) (by simpa using hi)
        rw [List.take_succ_cons, eithN_cons, if_neg hb] at this
        simpa using this)
  | [], _ :: _, _, h, _, _ => by cases h
  | _ :: _, [], _, h, _, _ => by cases h
def mkA {α : Type} (n : Nat) (f : Nat → α) : List α := (List.range n).map f
theorem mkA_len {α : Type} (n : Nat) (f : Nat → α) : (mkA n f).length = n := by simp [mkA]
theorem mkA_get {α : Type} {n : Nat} {f : Nat → α} {j : Nat} (h : j < n) : (mkA n f)[j]? = some (f j) := by simp [mkA, List.getElem?_range h]
theorem mkA_succ {α : Type} (n : Nat) (f : Nat → α) : mkA (n + 1) f = mkA n f ++ [f n] := by simp [mkA, List.range_succ]
/-- the state that the values begin at, and what comes in -/
def st0 (g : G) (begin : List Int) (vs : List Bool) : List Bool := mkA g.next.length fun i => litC vs ((unU g begin 0).f (1 + g.ins.toNat + i))
def in0 (g : G) (begin : List Int) (vs : List Bool) (t : Nat) : List Bool := mkA g.ins.toNat fun j => litC vs (nowA g (unU g begin t).v (unU g begin t).f g.ands.length (1 + j))
def seq0 (g : G) (begin : List Int) (vs : List Bool) (k : Nat) : List (List Bool) := mkA k (in0 g begin vs)
theorem getD_mkA {α : Type} {d : α} {n : Nat} {f : Nat → α} {j : Nat} (h : j < n) : (mkA n f).getD j d = f j := by
  rw [List.getD_eq_getElem?_getD, mkA_get h]
  rfl
structure SatF (g : G) (begin : List Int) (k : Nat) (vs : List Bool) : Prop where
  one : vs.getD 0 false = true
  gate : ∀ t, t < k → ∀ c ∈ clsA g (unU g begin t).v (nowA g (unU g begin t).v (unU g begin t).f g.ands.length) g.ands.length, c.any (litC vs) = true
theorem satf_of {g : G} {begin : List Int} {k : Nat} {vs : List Bool} (h : ((unrC g begin k).cls.all fun c => c.any (litC vs)) = true) : SatF g begin k vs := by
  have h := List.all_eq_true.1 h
  have sub : ∀ t, t ≤ k → ∀ c ∈ (unU g begin t).cls, c.any (litC vs) = true := fun t ht c hc => by
    obtain ⟨e, rfl⟩ : ∃ e, k = t + e := ⟨k - t, by omega⟩
    obtain ⟨cs, rs, h1, _⟩ := unU_app g begin t e
    refine h c ?_
    show c ∈ (unU g begin (t + e)).cls
    rw [h1]
    exact List.mem_append_left _ hc
  refine ⟨?_, fun t ht c hc => sub (t + 1) ht c (List.mem_append_right _ hc)⟩
  have := sub 0 (Nat.zero_le _) [1] (List.mem_singleton.2 rfl)
  have e : litC vs 1 = vs.getD 0 false := litC_pos (k := 0) rfl
  rw [List.any_cons, List.any_nil, Bool.or_false, e] at this
  exact this
theorem fit0 {g : G} {begin : List Int} {k : Nat} {vs : List Bool} (hn : begin.length = g.next.length) (hb : begin.any badB = false) (h0 : 0 ≤ g.ins) (one : vs.getD 0 false = true) : FitU g begin (st0 g begin vs) (seq0 g begin vs k) := by
  refine ⟨by rw [st0, mkA_len, hn], fun j b x hj hx h2 => ?_, fun l hl => ?_⟩
  · have hjl := (List.getElem?_eq_some_iff.1 hj).1
    rw [st0, mkA_get (by omega)] at hx
    have hbb := List.any_eq_false.1 hb b (List.mem_of_getElem? hj)
    unfold badB at hbb
    replace hbb : ¬ (b < 0 ∨ 2 < b) := fun e => hbb (decide_eq_true e)
    rw [← Option.some.inj hx]
    show litC _ (firstF g begin begin.length (1 + g.ins.toNat + j)) = _
    unfold firstF
    rw [if_neg (by omega), if_pos (by omega), show 1 + g.ins.toNat + j - 1 - g.ins.toNat = j by omega]
    unfold begV
    rw [List.getD_eq_getElem?_getD, hj]
    show litC _ (if b = 0 then -1 else if b = 1 then 1 else _) = _
    by_cases hz : b = 0
    · rw [if_pos hz, litC_m1 one, hz]
      rfl
    · rw [if_neg hz, if_pos (by omega), decide_eq_true (by omega)]
      have e : litC vs 1 = vs.getD 0 false := litC_pos (k := 0) rfl
      rw [e, one]
  · obtain ⟨t, ht⟩ := List.getElem?_of_mem hl
    have htl := (List.getElem?_eq_some_iff.1 ht).1
    rw [seq0, mkA_len] at htl
    rw [seq0, mkA_get htl] at ht
    rw [← Option.some.inj ht, in0, mkA_len]
    omega
theorem sem0 {g : G} {begin : List Int} {k : Nat} {vs : List Bool} (hg : GOk g g.N) (hS : SatF g begin k vs) {t : Nat} (ht : t < k) (hu : UOk g (unU g begin t)) (hv : (unU g begin t).v + g.ins + g.ands.length ≤ 1000000) {st : List Bool} (hsl : st.length = g.next.length)
    (hlat : ∀ i, i < g.next.length → litC vs ((unU g begin t).f (1 + g.ins.toNat + i)) = st.getD i false) : Sem g vs (unU g begin t) st (in0 g begin vs t) := by
  have h0 := hg.i0
  have h1 := hu.v1
  have hN : g.N = firstN g + g.ands.length := rfl
  have il : ((in0 g begin vs t).length : Int) = g.ins := by
    rw [in0, mkA_len]
    omega
  refine ⟨hS.one, hsl, il, hlat, fun j hj => ?_, fun i a ha hlow => ?_⟩
  · rw [in0, getD_mkA hj]
    unfold nowA
    rw [if_neg (by unfold firstN; omega)]
    unfold nowI
    rw [if_pos (by omega)]
    exact (litC_pos (by omega)).symm
  · have hi := (List.getElem?_eq_some_iff.1 ha).1
    obtain ⟨⟨_, p2, _⟩, ⟨_, p5, _⟩⟩ := hg.an i a ha
    have o1 := nowA_ok hg hu (a.1 / 2).toNat (by omega)
    have o2 := nowA_ok hg hu (a.2 / 2).toNat (by omega)
    have lx := litC_in (V := valsG g st (in0 g begin vs t)) hv o1 (hlow _ p2)
    have ly := litC_in (V := valsG g st (in0 g begin vs t)) hv o2 (hlow _ p5)
    have ox := inF_ok (a := a.1) hv o1
    have oy := inF_ok (a := a.2) hv o2
    have ow : okL ((unU g begin t).v + g.ins + g.ands.length) ((unU g begin t).v + g.ins + 1 + (i : Int)) := ⟨by omega, by omega, by omega⟩
    have lw : litC vs ((unU g begin t).v + g.ins + 1 + (i : Int)) = vs.getD ((unU g begin t).v.toNat + g.ins.toNat + i) false := litC_pos (by omega)
    have hc : ∀ c ∈ andCl (nowA g (unU g begin t).v (unU g begin t).f g.ands.length) ((unU g begin t).v + g.ins + 1 + (i : Int)) a, c.any (litC vs) = true := fun c hc => hS.gate t ht c (List.mem_flatMap.2 ⟨i, List.mem_range.2 hi, by rw [List.getD_eq_getElem?_getD, ha]; exact hc⟩)
    have c1 := hc _ (List.mem_cons_self)
    have c2 := hc _ (List.mem_cons_of_mem _ List.mem_cons_self)
    have c3 := hc _ (List.mem_cons_of_mem _ (List.mem_cons_of_mem _ List.mem_cons_self))
    simp only [List.any_cons, List.any_nil, litC_neg hv ow, litC_neg hv ox, litC_neg hv oy, lw, lx, ly] at c1 c2 c3
    rw [vals_gate hg hsl il ha]
    revert c1 c2 c3
    cases vs.getD ((unU g begin t).v.toNat + g.ins.toNat + i) false <;> cases litV (valsG g st (in0 g begin vs t)) a.1 <;> cases litV (valsG g st (in0 g begin vs t)) a.2 <;> simp
theorem only_of {g : G} {begin : List Int} {k : Nat} {vs : List Bool} (hq : unCheck g begin k = 0) (hl : (vs.length : Int) = (unrC g begin k).vars) (hs : ((unrC g begin k).cls.all fun c => c.any (litC vs)) = true) :
    FitU g begin (st0 g begin vs) (seq0 g begin vs k) ∧ valL g begin (st0 g begin vs) (seq0 g begin vs k) = vs := by
  obtain ⟨q1, q2, q3, q4, q5, q6⟩ := unCheck_ok hq
  have hg := gok_of q1
  have h0 := hg.i0
  have hN := hg.hN
  have hle := hg.le
  have hS := satf_of hs
  have hf := fit0 (k := k) q2 q3 h0 hS.one
  have hb : ∀ i : Nat, i ≤ k → (unU g begin i).v ≤ (unU g begin k).v ∧ (unU g begin i).v + g.ins + g.ands.length ≤ 1000000 := fun i hi => by
    have hm := mul_in (k := (i : Int)) (q := g.ins + g.ands.length) (by omega) (by omega)
    have hm2 : (i : Int) * (g.ins + g.ands.length) ≤ (k : Int) * (g.ins + g.ands.length) := Int.mul_le_mul_of_nonneg_right (by omega) (by omega)
    have := eithN_le begin
    rw [unU_v, unU_v]
    omega
  have hu : ∀ i : Nat, i ≤ k → UOk g (unU g begin i) := fun i hi => unU_ok hg q2 i (fun j hj => (hb j (by omega)).2)
  have hsq : ∀ t, t < k → (seq0 g begin vs k)[t]? = some (in0 g begin vs t) := fun t ht => mkA_get ht
  have hlat : ∀ t, t ≤ k → ∀ i, i < g.next.length → litC vs ((unU g begin t).f (1 + g.ins.toNat + i)) = (stB g (st0 g begin vs) ((seq0 g begin vs k).take t)).getD i false := fun t => by
    induction t with
    | zero =>
      intro _ i hi
      show _ = (st0 g begin vs).getD i false
      rw [st0, getD_mkA hi]
    | succ t ih =>
      intro ht
      have h := sem0 hg hS (t := t) (by omega) (hu t (by omega)) (hb t (by omega)).2 (stB_len g _ _ (by rw [st0, mkA_len])) (ih (by omega))
      rw [List.take_add_one, hsq t (by omega)]
      show ∀ i, i < g.next.length → litC vs ((unNext g (unU g begin t)).f _) = (stB g _ ((seq0 g begin vs k).take t ++ [_])).getD i false
      rw [stB_snoc]
      exact sem_next hg (hu t (by omega)) (hb t (by omega)).2 h
  refine ⟨hf, ?_⟩
  have hvk : (unrC g begin k).vars = (unU g begin k).v := rfl
  have key : ∀ t, t ≤ k → valL g begin (st0 g begin vs) ((seq0 g begin vs k).take t) = vs.take (unU g begin t).v.toNat := fun t => by
    induction t with
    | zero =>
      intro _
      have hv0 : (unU g begin 0).v = 1 + eithN begin := rfl
      have hvl := (hb 0 (Nat.zero_le _)).1
      obtain ⟨y, l, rfl⟩ : ∃ y l, vs = y :: l := by
        cases vs with
        | nil => have := hS.one; cases this
        | cons y l => exact ⟨_, _, rfl⟩
      have hy : y = true := hS.one
      rw [hv0, show (1 + (eithN begin : Int)).toNat = eithN begin + 1 by omega, List.take_succ_cons]
      show true :: (eithS begin _ ++ []) = _
      rw [List.append_nil, hy]
      congr 1
      rw [List.length_cons] at hl
      refine eithS_eq (by rw [st0, mkA_len, q2]) (by rw [List.length_take]; omega) (fun i hi => ?_)
      have hil := (List.getElem?_eq_some_iff.1 hi).1
      have e := eithN_take hi
      rw [if_pos rfl] at e
      have hle2 : eithN (begin.take (i + 1)) ≤ eithN begin := List.Sublist.countP_le (List.take_sublist _ _)
      rw [st0, mkA_get (by omega)]
      show some (litC (true :: l) (firstF g begin begin.length (1 + g.ins.toNat + i))) = _
      unfold firstF
      rw [if_neg (by omega), if_pos (by omega), show 1 + g.ins.toNat + i - 1 - g.ins.toNat = i by omega]
      unfold begV
      rw [List.getD_eq_getElem?_getD, hi]
      show some (litC (true :: l) (1 + eithN (begin.take (i + 1)))) = _
      rw [litC_pos (k := eithN (begin.take i) + 1) (by omega), List.getD_cons_succ, List.getElem?_take_of_lt (by omega), List.getD_eq_getElem?_getD, List.getElem?_eq_getElem (by omega)]
      rfl
    | succ t ih =>
      intro ht
      have hut := hu t (by omega)
      have h1 := hut.v1
      have hsm := sem0 hg hS (t := t) (by omega) hut (hb t (by omega)).2 (stB_len g _ _ (by rw [st0, mkA_len])) (hlat t (by omega))
      have hnow := sem_now hut h0 hsm
      have hv1 : (unU g begin (t + 1)).v = (unU g begin t).v + g.ins + g.ands.length := rfl
      have hvl := (hb (t + 1) ht).1
      have hil : (in0 g begin vs t).length = g.ins.toNat := mkA_len _ _
      rw [List.take_add_one, hsq t (by omega), hv1, show ((unU g begin t).v + g.ins + g.ands.length).toNat = (unU g begin t).v.toNat + (g.ins.toNat + g.ands.length) by omega, List.take_add, ← ih (by omega)]
      show true :: (eithS begin _ ++ runB g _ ((seq0 g begin vs k).take t ++ [in0 g begin vs t])) = true :: (eithS begin _ ++ runB g _ ((seq0 g begin vs k).take t)) ++ _
      rw [runB_snoc, ← List.append_assoc, List.cons_append]
      congr 2
      refine List.ext_getElem? fun j => ?_
      have hdl := vals_drop g (stB g (st0 g begin vs) ((seq0 g begin vs k).take t)) (in0 g begin vs t) hsm.sl hsm.il
      by_cases hj : j < g.ins.toNat + g.ands.length
      · have e1 : ((vs.drop (unU g begin t).v.toNat).take (g.ins.toNat + g.ands.length))[j]? = some (vs.getD ((unU g begin t).v.toNat + j) false) := by
          rw [List.getElem?_take_of_lt hj, List.getElem?_drop, List.getD_eq_getElem?_getD, List.getElem?_eq_getElem (by omega)]
          rfl
        rw [e1]
        by_cases hj2 : j < g.ins.toNat
        · rw [List.getElem?_append_left (by omega), List.getElem?_eq_getElem (by omega), hsm.come j hj2, List.getD_eq_getElem?_getD, List.getElem?_eq_getElem (by omega)]
          rfl
        · obtain ⟨i, rfl⟩ : ∃ i, j = g.ins.toNat + i := ⟨j - g.ins.toNat, by omega⟩
          obtain ⟨a, ha⟩ : ∃ a, g.ands[i]? = some a := ⟨_, List.getElem?_eq_getElem (by omega)⟩
          have hN2 : g.N = firstN g + g.ands.length := rfl
          rw [List.getElem?_append_right (by omega), hil, Nat.add_sub_cancel_left, ← Nat.add_assoc, hsm.gate i a ha (fun j hj => hnow j (by omega)), List.getElem?_drop, List.getD_eq_getElem?_getD, List.getElem?_eq_getElem (by rw [List.length_drop] at hdl; omega)]
          rfl
      · rw [List.getElem?_eq_none (by rw [List.length_append]; omega), List.getElem?_eq_none (by rw [List.length_take]; omega)]
  have := key k (Nat.le_refl _)
  rw [show (seq0 g begin vs k).take k = seq0 g begin vs k from List.take_of_length_le (by rw [seq0, mkA_len]; exact Nat.le_refl _)] at this
  rw [this]
  exact List.take_of_length_le (by omega)
theorem rows_at {g : G} {begin : List Int} {k t : Nat} (ht : t < k) : (unrC g begin k).rows[t]? = some (mk g.N (nowA g (unU g begin t).v (unU g begin t).f g.ands.length)) := by
  obtain ⟨e, he⟩ : ∃ e, k = t + 1 + e := ⟨k - (t + 1), by omega⟩
  obtain ⟨cs, rs, _, h2⟩ := unU_app g begin (t + 1) e
  show ((unU g begin k).rows ++ [_])[t]? = _
  have hl := unU_rows g begin t
  rw [he, h2, List.append_assoc]
  show ((unU g begin t).rows ++ [mk g.N (nowA g (unU g begin t).v (unU g begin t).f g.ands.length)] ++ _)[t]? = _
  rw [List.append_assoc, List.getElem?_append_right (by omega), hl, Nat.sub_self]
  rfl
theorem rows_last {g : G} {begin : List Int} {k : Nat} : (unrC g begin k).rows[k]? = some (mk g.N (unU g begin k).f) := by
  show ((unU g begin k).rows ++ [_])[k]? = _
  have hl := unU_rows g begin k
  rw [List.getElem?_append_right (by omega), hl, Nat.sub_self]
  rfl
/-- where the begin and what comes in stand among unrolled clauses -/
structure OnlyF (g : G) (begin : List Int) (k : Nat) (vs : List Bool) (u : Cn) : Prop where
  at0 : ∃ r, u.rows[0]? = some r ∧ ∀ i, i < g.next.length → ∃ x, r[1 + g.ins.toNat + i]? = some x ∧ okL u.vars x ∧ (st0 g begin vs)[i]? = some (litC vs x)
  come : ∀ t, t < k → (in0 g begin vs t).length = g.ins.toNat ∧ ∃ r, u.rows[t]? = some r ∧ r.length = g.N ∧ ∀ j, j < g.ins.toNat → ∃ x, r[1 + j]? = some x ∧ okL u.vars x ∧ (in0 g begin vs t)[j]? = some (litC vs x)
theorem onlyf_of {g : G} {begin : List Int} {k : Nat} (vs : List Bool) (hq : unCheck g begin k = 0) : OnlyF g begin k vs (unrC g begin k) := by
  obtain ⟨q1, q2, q3, q4, q5, q6⟩ := unCheck_ok hq
  have hg := gok_of q1
  have h0 := hg.i0
  have hN := hg.hN
  have hle := hg.le
  have hb : ∀ i : Nat, i ≤ k → (unU g begin i).v ≤ (unU g begin k).v ∧ (unU g begin i).v + g.ins + g.ands.length ≤ 1000000 := fun i hi => by
    have hm := mul_in (k := (i : Int)) (q := g.ins + g.ands.length) (by omega) (by omega)
    have hm2 : (i : Int) * (g.ins + g.ands.length) ≤ (k : Int) * (g.ins + g.ands.length) := Int.mul_le_mul_of_nonneg_right (by omega) (by omega)
    have := eithN_le begin
    rw [unU_v, unU_v]
    omega
  have hu : ∀ i : Nat, i ≤ k → UOk g (unU g begin i) := fun i hi => unU_ok hg q2 i (fun j hj => (hb j (by omega)).2)
  have hnow : ∀ t, t < k → ∀ j, j < g.N → okL (unU g begin k).v (nowA g (unU g begin t).v (unU g begin t).f g.ands.length j) := fun t ht j hj => by
    refine (nowA_ok hg (hu t (by omega)) j hj).mono ?_
    have h1 := hb (t + 1) (by omega)
    have : (unU g begin (t + 1)).v = (unU g begin t).v + g.ins + g.ands.length := rfl
    omega
  refine ⟨?_, fun t ht => ⟨mkA_len _ _, _, rows_at ht, mk_len _ _, fun j hj => ⟨_, mk_get (by unfold G.N; omega), hnow t ht _ (by unfold G.N; omega), mkA_get hj⟩⟩⟩
  by_cases hk : 0 < k
  · refine ⟨_, rows_at hk, fun i hi => ⟨_, mk_get (by unfold G.N; omega), hnow 0 hk _ (by unfold G.N; omega), ?_⟩⟩
    rw [st0, mkA_get hi]
    congr 2
    unfold nowA
    rw [if_neg (by unfold firstN; omega)]
    unfold nowI
    rw [if_neg (by omega)]
  · obtain rfl : k = 0 := by omega
    exact ⟨_, rows_last, fun i hi => ⟨_, mk_get (by unfold G.N; omega), (hu 0 (Nat.le_refl _)).lat _ (.inr ⟨by omega, by unfold firstN; omega⟩), by rw [st0, mkA_get hi]⟩⟩
end Go.Proofs.Ytpbfkpdfodmcaaa
