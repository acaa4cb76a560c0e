import Derived.Test.YtpbfkpdfodmcaaaE5
namespace Go.Proofs.Ytpbfkpdfodmcaaa
open Go.RowKit
/-- one of so many variables, or its negation -/
def okL (v x : Int) : Prop := x ≠ 0 ∧ 0 - v ≤ x ∧ x ≤ v
theorem okL.mono {v w x : Int} (h : okL v x) (hv : v ≤ w) : okL w x := ⟨h.1, by have := h.2.1; omega, by have := h.2.2; omega⟩
theorem okL.neg {v x : Int} (hv : v ≤ 1000000) (h : okL v x) : negW x = 0 - x ∧ okL v (negW x) := by
  obtain ⟨h1, h2, h3⟩ := h
  have e : negW x = 0 - x := negW_eq ⟨by omega, by omega⟩
  exact ⟨e, by rw [e]; exact ⟨by omega, by omega, by omega⟩⟩
theorem inF_ok {v a : Int} {f : Nat → Int} (hv : v ≤ 1000000) (h : okL v (f (a / 2).toNat)) : okL v (inF f a) := by
  unfold inF
  split
  · exact (h.neg hv).2
  · exact h
structure UOk (g : G) (u : Us) : Prop where
  lat : ∀ j, (j = 0 ∨ (g.ins.toNat < j ∧ j < firstN g)) → okL u.v (u.f j)
  cls : ∀ c ∈ u.cls, ∀ x ∈ c, okL u.v x
  f0 : u.f 0 = -1
  v1 : 1 ≤ u.v
theorem nowA_ok {g : G} {u : Us} (hg : GOk g g.N) (hu : UOk g u) : ∀ j, j < g.N → okL (u.v + g.ins + g.ands.length) (nowA g u.v u.f g.ands.length j) := fun j hj => by
  have h0 := hg.i0
  have h1 := hu.v1
  have hN : g.N = firstN g + g.ands.length := rfl
  unfold nowA
  split
  · exact ⟨by omega, by omega, by omega⟩
  · unfold nowI
    split
    · exact ⟨by omega, by omega, by omega⟩
    · exact (hu.lat j (by unfold firstN at *; omega)).mono (by omega)
theorem nowA_0 (g : G) (v : Int) (f : Nat → Int) (i : Nat) : nowA g v f i 0 = f 0 := by
  unfold nowA nowI
  rw [if_neg (by unfold firstN; omega), if_neg (by omega)]
theorem next_ok {g : G} {u : Us} (hg : GOk g g.N) (hu : UOk g u) (hv : u.v + g.ins + g.ands.length ≤ 1000000) : UOk g (unNext g u) := by
  have h0 := hg.i0
  have h1 := hu.v1
  have hF := nowA_ok hg hu
  have hN : g.N = firstN g + g.ands.length := rfl
  refine ⟨fun j hj => ?_, fun c hc x hx => ?_, ?_, ?_⟩
  · show okL _ (nextF g (nowA g u.v u.f g.ands.length) g.next.length j)
    unfold nextF
    rcases hj with rfl | ⟨h2, h3⟩
    · rw [if_pos rfl]
      exact ⟨by decide, by show 0 - (u.v + g.ins + g.ands.length) ≤ -1; omega, by show -1 ≤ u.v + g.ins + g.ands.length; omega⟩
    · rw [if_neg (by omega), if_pos ⟨h2, h3⟩]
      refine inF_ok hv ?_
      obtain ⟨y, hy⟩ : ∃ y, g.next[j - 1 - g.ins.toNat]? = some y := ⟨_, List.getElem?_eq_getElem (by unfold firstN at h3; omega)⟩
      rw [List.getD_eq_getElem?_getD, hy]
      exact hF _ (hg.nx y (List.mem_of_getElem? hy)).2.1
  · rcases List.mem_append.1 hc with hc | hc
    · exact (hu.cls c hc x hx).mono (by show u.v ≤ u.v + g.ins + g.ands.length; omega)
    · obtain ⟨j, hj, hc⟩ := List.mem_flatMap.1 hc
      replace hj := List.mem_range.1 hj
      obtain ⟨a, ha⟩ : ∃ a, g.ands[j]? = some a := ⟨_, List.getElem?_eq_getElem hj⟩
      rw [List.getD_eq_getElem?_getD, ha] at hc
      obtain ⟨⟨_, p2, _⟩, ⟨_, p5, _⟩⟩ := hg.an j a ha
      have ox : okL (u.v + g.ins + g.ands.length) (inF (nowA g u.v u.f g.ands.length) a.1) := inF_ok hv (hF _ (by omega))
      have oy : okL (u.v + g.ins + g.ands.length) (inF (nowA g u.v u.f g.ands.length) a.2) := inF_ok hv (hF _ (by omega))
      have ow : okL (u.v + g.ins + g.ands.length) (u.v + g.ins + 1 + (j : Int)) := ⟨by omega, by omega, by omega⟩
      show okL (u.v + g.ins + g.ands.length) x
      simp only [Option.getD_some, andCl, List.mem_cons, List.not_mem_nil, or_false] at hc
      rcases hc with rfl | rfl | rfl <;> simp only [List.mem_cons, List.not_mem_nil, or_false] at hx
      · rcases hx with rfl | rfl
        · exact (ow.neg hv).2
        · exact ox
      · rcases hx with rfl | rfl
        · exact (ow.neg hv).2
        · exact oy
      · rcases hx with rfl | rfl | rfl
        · exact ow
        · exact (ox.neg hv).2
        · exact (oy.neg hv).2
  · show nextF g (nowA g u.v u.f g.ands.length) g.next.length 0 = -1
    exact if_pos rfl
  · show 1 ≤ u.v + g.ins + g.ands.length
    omega
theorem begV_ok (begin : List Int) (i : Nat) : okL (1 + eithN begin) (begV begin i) := by
  have h : eithN (begin.take (i + 1)) ≤ eithN begin := List.Sublist.countP_le (List.take_sublist _ _)
  unfold begV
  split
  · exact ⟨by decide, by omega, by omega⟩
  · split
    · exact ⟨by decide, by omega, by omega⟩
    · exact ⟨by omega, by omega, by omega⟩
theorem unU_ok {g : G} {begin : List Int} (hg : GOk g g.N) (hb : begin.length = g.next.length) : ∀ k : Nat, (∀ i, i < k → (unU g begin i).v + g.ins + g.ands.length ≤ 1000000) → UOk g (unU g begin k)
  | 0, _ => by
    refine ⟨fun j hj => ?_, fun c hc x hx => ?_, rfl, by show (1 : Int) ≤ 1 + eithN begin; omega⟩
    · show okL (1 + eithN begin) (firstF g begin begin.length j)
      unfold firstF
      rcases hj with rfl | ⟨h2, h3⟩
      · rw [if_pos rfl]
        exact ⟨by decide, by omega, by omega⟩
      · unfold firstN at h3
        rw [if_neg (by omega), if_pos (by omega)]
        exact begV_ok _ _
    · obtain rfl := List.mem_singleton.1 hc
      obtain rfl := List.mem_singleton.1 hx
      exact ⟨by decide, by show (0 : Int) - (1 + eithN begin) ≤ 1; omega, by show (1 : Int) ≤ 1 + eithN begin; omega⟩
  | k + 1, h => next_ok hg (unU_ok hg hb k (fun i hi => h i (by omega))) (h k (by omega))
theorem unU_len (g : G) (begin : List Int) : ∀ k : Nat, ∀ c ∈ (unU g begin k).cls, c.length ≤ 3
  | 0, c, hc => by
    obtain rfl := List.mem_singleton.1 hc
    decide
  | k + 1, c, hc => by
    rcases List.mem_append.1 hc with hc | hc
    · exact unU_len g begin k c hc
    · obtain ⟨j, _, hc⟩ := List.mem_flatMap.1 hc
      simp only [andCl, List.mem_cons, List.not_mem_nil, or_false] at hc
      rcases hc with rfl | rfl | rfl <;> simp
/-- what is so of clauses that are unrolled -/
structure UnF (g : G) (begin : List Int) (k : Nat) (u : Cn) : Prop where
  vars : u.vars = 1 + eithN begin + k * (g.ins + g.ands.length)
  cls : u.cls.length = 1 + k * (3 * g.ands.length)
  rows : u.rows.length = k + 1
  row : ∀ r ∈ u.rows, r.length = g.N ∧ r[0]? = some (-1)
  ok : ∀ c ∈ u.cls, ∀ x ∈ c, okL u.vars x
  len : ∀ c ∈ u.cls, c.length ≤ 3
theorem unU_row {g : G} {begin : List Int} : ∀ k : Nat, (∀ i, i ≤ k → (unU g begin i).f 0 = -1) → ∀ r ∈ (unU g begin k).rows, r.length = g.N ∧ r[0]? = some (-1)
  | 0, _, r, hr => by cases hr
  | k + 1, h, r, hr => by
    rcases List.mem_append.1 hr with hr | hr
    · exact unU_row k (fun i hi => h i (by omega)) r hr
    · obtain rfl := List.mem_singleton.1 hr
      refine ⟨mk_len _ _, ?_⟩
      rw [mk_get (by unfold G.N; omega), nowA_0, h k (by omega)]
theorem unf_of {g : G} {begin : List Int} {k : Int} (hq : unCheck g begin k = 0) : UnF g begin k.toNat (unrC g begin k.toNat) := by
  obtain ⟨q1, q2, q3, q4, q5, q6⟩ := unCheck_ok hq
  have hg := gok_of q1
  have h0 := hg.i0
  have hN := hg.hN
  have hle := hg.le
  have hkk : ((k.toNat : Nat) : Int) = k := by omega
  have hb : ∀ i : Nat, i < k.toNat → (unU g begin i).v + g.ins + g.ands.length ≤ 1000000 := fun i hi => by
    have hm := mul_in (k := (i : Int)) (q := g.ins + g.ands.length) (by omega) (by omega)
    have := eithN_le begin
    rw [unU_v]
    omega
  have ok : ∀ i : Nat, i ≤ k.toNat → UOk g (unU g begin i) := fun i hi => unU_ok hg q2 i (fun j hj => hb j (by omega))
  refine ⟨by show (unU g begin k.toNat).v = _; rw [unU_v], unU_cls g begin k.toNat, ?_, fun r hr => ?_, (ok _ (Nat.le_refl _)).cls, unU_len g begin k.toNat⟩
  · show ((unU g begin k.toNat).rows ++ [_]).length = _
    rw [List.length_append, unU_rows]
    rfl
  · rcases List.mem_append.1 hr with hr | hr
    · exact unU_row k.toNat (fun i hi => (ok i hi).f0) r hr
    · obtain rfl := List.mem_singleton.1 hr
      refine ⟨mk_len _ _, ?_⟩
      rw [mk_get (by unfold G.N; omega), (ok _ (Nat.le_refl _)).f0]
theorem unU_app (g : G) (begin : List Int) (d : Nat) : ∀ e : Nat, ∃ cs rs, (unU g begin (d + e)).cls = (unU g begin d).cls ++ cs ∧ (unU g begin (d + e)).rows = (unU g begin d).rows ++ rs
  | 0 => ⟨[], [], by simp, by simp⟩
  | e + 1 => by
    obtain ⟨cs, rs, h1, h2⟩ := unU_app g begin d e
    refine ⟨cs ++ clsA g (unU g begin (d + e)).v (nowA g (unU g begin (d + e)).v (unU g begin (d + e)).f g.ands.length) g.ands.length, rs ++ [mk g.N (nowA g (unU g begin (d + e)).v (unU g begin (d + e)).f g.ands.length)], ?_, ?_⟩
    · show (unU g begin (d + e)).cls ++ _ = _
      rw [h1, List.append_assoc]
      rfl
    · show (unU g begin (d + e)).rows ++ _ = _
      rw [h2, List.append_assoc]
      rfl
end Go.Proofs.Ytpbfkpdfodmcaaa
