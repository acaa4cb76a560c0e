/- The names of a netlist that may be, plainly. -/
import Derived.Test.YtfkmolbcgnkfdaaDoorBounds
import Derived.Test.YtfkmolbcgnkfdaaDoorPlace
namespace Go.Proofs.YtfkmolbcgnkfdaaDoor
open Go.RowKit
theorem placeL_neg : ∀ {l : List ByteArray} {s : ByteArray}, ¬ s ∈ l → placeL l s = -1
  | [], _, _ => rfl
  | x :: l, s, h => by
    have h1 : ¬ stEq x s = true := fun e => h (by rw [(stEq_iff x s).1 e]; exact List.mem_cons_self)
    have h2 := placeL_neg (l := l) (s := s) (fun e => h (List.mem_cons_of_mem _ e))
    rw [placeL, if_neg h1, if_pos h2]
theorem placeL_pos : ∀ {l : List ByteArray} {s : ByteArray}, s ∈ l → 0 ≤ placeL l s
  | [], _, h => by cases h
  | x :: l, s, h => by
    rw [placeL]
    by_cases h1 : stEq x s = true
    · rw [if_pos h1]; omega
    · rw [if_neg h1]
      have hm : s ∈ l := by
        rcases List.mem_cons.1 h with rfl | h
        · exact absurd (stEq_self _) h1
        · exact h
      have h2 := placeL_pos hm
      rw [if_neg (by omega)]
      omega
theorem placeL_first : ∀ {l : List ByteArray} {s : ByteArray} {i : Nat}, l[i]? = some s → ¬ s ∈ l.take i → placeL l s = (i : Int)
  | [], _, _, h, _ => by simp at h
  | x :: l, s, 0, h, _ => by
    obtain rfl : x = s := by simpa using h
    rw [placeL, if_pos (stEq_self _)]
    rfl
  | x :: l, s, i + 1, h, hn => by
    have h1 : ¬ stEq x s = true := fun e => hn (by rw [(stEq_iff x s).1 e, List.take_succ_cons]; exact List.mem_cons_self)
    have h2 := placeL_first (l := l) (s := s) (i := i) (by simpa using h) (fun e => hn (by rw [List.take_succ_cons]; exact List.mem_cons_of_mem _ e))
    rw [placeL, if_neg h1, h2, if_neg (by omega)]
    omega
theorem twiceF_none : ∀ {l pre : List ByteArray}, twiceF pre l = none → ∀ (i : Nat) (x : ByteArray), l[i]? = some x → ¬ x ∈ pre ++ l.take i
  | [], _, _, _, _, h => by simp at h
  | y :: l, pre, ht, i, x, hx => by
    rw [twiceF] at ht
    split at ht
    · cases ht
    · rename_i hu
      cases i with
      | zero =>
        obtain rfl : y = x := by simpa using hx
        intro hm
        exact hu ((usedB_iff _ _).2 (by simpa using hm))
      | succ i =>
        have := twiceF_none ht i x (by simpa using hx)
        intro hm
        apply this
        simpa [List.take_succ_cons, List.append_assoc] using hm
theorem check_six {c : Ci} {s : ByteArray} (h : checkC c = (6, s)) : placeL (netsC c) s = -1 := by
  unfold checkC at h
  split at h
  · simp at h
  · split at h
    · simp at h
    · split at h
      · simp at h
      · split at h
        · simp at h
        · split at h
          · simp at h
          · split at h
            · simp at h
            · split at h
              · rename_i x hx
                obtain rfl : x = s := by simpa using h
                have := List.find?_some hx
                apply placeL_neg
                intro hm
                rw [(usedB_iff _ _).2 hm] at this
                cases this
              · simp at h
structure May (c : Ci) : Prop where
  lim : limitB c = false
  once : twiceF [] (netsC c) = none
  used : ∀ s ∈ usedC c, s ∈ netsC c
theorem check_zero {c : Ci} {s : ByteArray} (h : checkC c = (0, s)) : s = noneT ∧ May c := by
  unfold checkC at h
  split at h
  · simp at h
  · rename_i hl
    split at h
    · simp at h
    · split at h
      · simp at h
      · rename_i ht
        split at h
        · simp at h
        · split at h
          · simp at h
          · split at h
            · simp at h
            · split at h
              · simp at h
              · rename_i hu
                have hs : noneT = s := by simpa using h
                refine ⟨hs.symm, by simpa using hl, ht, fun x hx => ?_⟩
                have := List.find?_eq_none.1 hu x hx
                exact (usedB_iff _ _).1 (by simpa using this)
theorem May.place {c : Ci} (h : May c) {i : Nat} {x : ByteArray} (hx : (netsC c)[i]? = some x) : placeL (netsC c) x = (i : Int) :=
  placeL_first hx (by simpa using twiceF_none h.once i x hx)
theorem May.out {c : Ci} (h : May c) {x : ByteArray} (hx : x ∈ c.outs) : 0 ≤ placeL (netsC c) x :=
  placeL_pos (h.used x (by unfold usedC; simp [hx]))
theorem May.ins {c : Ci} (h : May c) {g : Gt} (hg : g ∈ c.gts) {x : ByteArray} (hx : x ∈ g.ins) : 0 ≤ placeL (netsC c) x :=
  placeL_pos (h.used x (by unfold usedC; simp only [List.mem_append, List.mem_flatMap]; exact .inr (.inr ⟨g, hg, hx⟩)))
theorem netsC_count (c : Ci) : (netsC c).length = c.ins.length + c.las.length + c.gts.length := by
  simp [netsC]
  omega
theorem May.count {c : Ci} (h : May c) : c.ins.length + c.las.length + c.gts.length ≤ 200 := by
  have := h.lim
  unfold limitB at this
  simp only [Bool.or_eq_false_iff, decide_eq_false_iff_not] at this
  omega
end Go.Proofs.YtfkmolbcgnkfdaaDoor
