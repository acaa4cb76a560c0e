import Derived.Test.YtpbfkpdfodmcaaaP1
import Derived.Test.YtpbfkpdfodmcaaaE7
namespace Go.Proofs.Ytpbfkpdfodmcaaa
open Go.RowKit
set_option linter.unusedSimpArgs false
theorem getD_app_l {α : Type} {d : α} {l m : List α} {j : Nat} (h : j < l.length) : (l ++ m).getD j d = l.getD j d := by
  rw [List.getD_eq_getElem?_getD, List.getD_eq_getElem?_getD, List.getElem?_append_left h]
theorem getD_app_r {α : Type} {d : α} {l m : List α} {j k : Nat} (h : j = l.length + k) : (l ++ m).getD j d = m.getD k d := by
  subst h
  rw [List.getD_eq_getElem?_getD, List.getD_eq_getElem?_getD, List.getElem?_append_right (Nat.le_add_right _ _), Nat.add_sub_cancel_left]
theorem fold_pre (l : List (Int × Int)) : ∀ (v : List Bool) (j : Nat), j < v.length → (l.foldl vstep v).getD j false = v.getD j false := by
  induction l with
  | nil => intro v j _; rfl
  | cons a l ih =>
    intro v j hj
    show (l.foldl vstep (vstep v a)).getD j false = _
    rw [ih _ j (by unfold vstep; rw [List.length_append]; omega)]
    exact getD_app_l hj
theorem fold_gate {l : List (Int × Int)} {v : List Bool} {i : Nat} {a : Int × Int} (ha : l[i]? = some a) (h1 : (a.1 / 2).toNat < v.length + i) (h2 : (a.2 / 2).toNat < v.length + i) :
    (l.foldl vstep v).getD (v.length + i) false = (litV (l.foldl vstep v) a.1 && litV (l.foldl vstep v) a.2) := by
  have hi := (List.getElem?_eq_some_iff.1 ha).1
  have e : l = l.take i ++ (a :: l.drop (i + 1)) := by
    have := (List.getElem?_eq_some_iff.1 ha).2
    rw [← this, List.getElem_cons_drop, List.take_append_drop]
  have hW : ((l.take i).foldl vstep v).length = v.length + i := by
    rw [vals_len, List.length_take]
    omega
  have hV : l.foldl vstep v = (l.drop (i + 1)).foldl vstep (vstep ((l.take i).foldl vstep v) a) := by
    conv => lhs; rw [e]
    rw [List.foldl_append, List.foldl_cons]
  have hlen : (vstep ((l.take i).foldl vstep v) a).length = v.length + i + 1 := by
    show ((l.take i).foldl vstep v ++ [_]).length = _
    rw [List.length_append, hW]
    rfl
  have hlow : ∀ j, j < v.length + i → (l.foldl vstep v).getD j false = ((l.take i).foldl vstep v).getD j false := fun j hj => by
    rw [hV, fold_pre _ _ j (by omega)]
    exact getD_app_l (by omega)
  unfold litV
  rw [hlow _ h1, hlow _ h2, hV, fold_pre _ _ _ (by omega)]
  show ((l.take i).foldl vstep v ++ [litV ((l.take i).foldl vstep v) a.1 && litV ((l.take i).foldl vstep v) a.2]).getD (v.length + i) false = _
  rw [getD_app_r (k := 0) (by rw [hW]; rfl)]
  rfl
theorem vals_low {g : G} {s i : List Bool} (hs : s.length = g.next.length) (hi : (i.length : Int) = g.ins) {j : Nat} (hj : j < firstN g) : (valsG g s i).getD j false = (false :: (i ++ s)).getD j false :=
  fold_pre _ _ _ (by rw [List.length_cons, List.length_append]; unfold firstN at hj; omega)
theorem vals_gate {g : G} {s i : List Bool} (hg : GOk g g.N) (hs : s.length = g.next.length) (hi : (i.length : Int) = g.ins) {k : Nat} {a : Int × Int} (ha : g.ands[k]? = some a) : (valsG g s i).getD (firstN g + k) false = (litV (valsG g s i) a.1 && litV (valsG g s i) a.2) := by
  obtain ⟨⟨_, p2, _⟩, ⟨_, p5, _⟩⟩ := hg.an k a ha
  have hl : (false :: (i ++ s)).length = firstN g := by
    rw [List.length_cons, List.length_append]
    unfold firstN
    omega
  have := fold_gate (v := false :: (i ++ s)) ha (by rw [hl]; exact p2) (by rw [hl]; exact p5)
  rw [hl] at this
  exact this
theorem litC_neg {vs : List Bool} {v x : Int} (hv : v ≤ 1000000) (h : okL v x) : litC vs (negW x) = !litC vs x := by
  obtain ⟨e, _⟩ := h.neg hv
  rw [e]
  obtain ⟨h0, _⟩ := h
  unfold litC
  by_cases hx : x < 0
  · rw [if_pos hx, if_neg (by omega), Bool.not_not]
  · rw [if_neg hx, if_pos (by omega), show 0 - (0 - x) - 1 = x - 1 by omega]
theorem litC_in {vs V : List Bool} {v a : Int} {f : Nat → Int} (hv : v ≤ 1000000) (ho : okL v (f (a / 2).toNat)) (he : litC vs (f (a / 2).toNat) = V.getD (a / 2).toNat false) : litC vs (inF f a) = litV V a := by
  unfold inF litV
  by_cases h : a % 2 = 1
  · rw [if_pos h, litC_neg hv ho, he, decide_eq_true h, Bool.bne_true]
  · rw [if_neg h, he, decide_eq_false h, Bool.bne_false]
theorem litC_pos {vs : List Bool} {x : Int} {k : Nat} (h : x = (k : Int) + 1) : litC vs x = vs.getD k false := by
  unfold litC
  rw [if_neg (by omega), show (x - 1).toNat = k by omega]
theorem litC_m1 {vs : List Bool} (h : vs.getD 0 false = true) : litC vs (-1) = false := by
  show (!vs.getD 0 false) = false
  rw [h]
  rfl
/-- what stands at a step: the state, and what comes in -/
structure Sem (g : G) (vs : List Bool) (u : Us) (st inp : List Bool) : Prop where
  one : vs.getD 0 false = true
  sl : st.length = g.next.length
  il : (inp.length : Int) = g.ins
  lat : ∀ i, i < g.next.length → litC vs (u.f (1 + g.ins.toNat + i)) = st.getD i false
  come : ∀ j, j < g.ins.toNat → vs.getD (u.v.toNat + j) false = inp.getD j false
  gate : ∀ i a, g.ands[i]? = some a → (∀ j, j < firstN g + i → litC vs (nowA g u.v u.f g.ands.length j) = (valsG g st inp).getD j false) → vs.getD (u.v.toNat + g.ins.toNat + i) false = (valsG g st inp).getD (firstN g + i) false
theorem sem_now {g : G} {vs : List Bool} {u : Us} {st inp : List Bool} (hu : UOk g u) (h0 : 0 ≤ g.ins) (h : Sem g vs u st inp) : ∀ j, j < g.N → litC vs (nowA g u.v u.f g.ands.length j) = (valsG g st inp).getD j false := by
  intro j
  induction j using Nat.strongRecOn with
  | _ j ih =>
  intro hj
  have h1 := hu.v1
  have hN : g.N = firstN g + g.ands.length := rfl
  by_cases c1 : firstN g ≤ j
  · obtain ⟨i, rfl⟩ : ∃ i, j = firstN g + i := ⟨j - firstN g, by omega⟩
    obtain ⟨a, ha⟩ : ∃ a, g.ands[i]? = some a := ⟨_, List.getElem?_eq_getElem (by omega)⟩
    rw [← h.gate i a ha (fun j hj => ih j hj (by omega))]
    refine litC_pos ?_
    unfold nowA
    rw [if_pos ⟨c1, by omega⟩]
    omega
  rw [vals_low h.sl h.il (by omega)]
  have e : nowA g u.v u.f g.ands.length j = nowI u.v u.f g.ins.toNat j := if_neg (fun e => c1 e.1)
  rw [e]
  by_cases c2 : 1 ≤ j ∧ j < 1 + g.ins.toNat
  · have e2 : nowI u.v u.f g.ins.toNat j = u.v + j := if_pos c2
    obtain ⟨i, rfl⟩ : ∃ i, j = i + 1 := ⟨j - 1, by omega⟩
    have hil := h.il
    rw [e2, litC_pos (k := u.v.toNat + i) (by omega), h.come i (by omega), List.getD_cons_succ, getD_app_l (by omega)]
  have e2 : nowI u.v u.f g.ins.toNat j = u.f j := if_neg c2
  rw [e2]
  by_cases c3 : j = 0
  · subst c3
    rw [hu.f0, litC_m1 h.one]
    rfl
  · unfold firstN at c1
    obtain ⟨i, rfl⟩ : ∃ i, j = 1 + g.ins.toNat + i := ⟨j - 1 - g.ins.toNat, by omega⟩
    have hil := h.il
    rw [h.lat i (by omega), show 1 + g.ins.toNat + i = (g.ins.toNat + i) + 1 by omega, List.getD_cons_succ, getD_app_r (k := i) (by omega)]
theorem sem_next {g : G} {vs : List Bool} {u : Us} {st inp : List Bool} (hg : GOk g g.N) (hu : UOk g u) (hv : u.v + g.ins + g.ands.length ≤ 1000000) (h : Sem g vs u st inp) : ∀ i, i < g.next.length → litC vs ((unNext g u).f (1 + g.ins.toNat + i)) = (nextV g (valsG g st inp)).getD i false := fun i hi => by
  obtain ⟨x, hx⟩ : ∃ x, g.next[i]? = some x := ⟨_, List.getElem?_eq_getElem hi⟩
  have hnx := hg.nx x (List.mem_of_getElem? hx)
  show litC vs (nextF g (nowA g u.v u.f g.ands.length) g.next.length (1 + g.ins.toNat + i)) = _
  unfold nextF nextV
  rw [if_neg (by omega), if_pos (by omega), show 1 + g.ins.toNat + i - 1 - g.ins.toNat = i by omega, List.getD_eq_getElem?_getD, hx, List.getD_eq_getElem?_getD, List.getElem?_map, hx]
  exact litC_in hv (nowA_ok hg hu _ hnx.2.1) (sem_now hu hg.i0 h _ hnx.2.1)
theorem sem_cls {g : G} {vs : List Bool} {u : Us} {st inp : List Bool} (hg : GOk g g.N) (hu : UOk g u) (hv : u.v + g.ins + g.ands.length ≤ 1000000) (h : Sem g vs u st inp) : ∀ c ∈ clsA g u.v (nowA g u.v u.f g.ands.length) g.ands.length, c.any (litC vs) = true := fun c hc => by
  obtain ⟨i, hi, hc⟩ := List.mem_flatMap.1 hc
  replace hi := List.mem_range.1 hi
  obtain ⟨a, ha⟩ : ∃ a, g.ands[i]? = some a := ⟨_, List.getElem?_eq_getElem hi⟩
  rw [List.getD_eq_getElem?_getD, ha, Option.getD_some] at hc
  obtain ⟨⟨_, p2, _⟩, ⟨_, p5, _⟩⟩ := hg.an i a ha
  have hN : g.N = firstN g + g.ands.length := rfl
  have h0 := hg.i0
  have h1 := hu.v1
  have now := sem_now hu hg.i0 h
  have o1 := nowA_ok hg hu (a.1 / 2).toNat (by omega)
  have o2 := nowA_ok hg hu (a.2 / 2).toNat (by omega)
  have lx := litC_in (V := valsG g st inp) hv o1 (now _ (by omega))
  have ly := litC_in (V := valsG g st inp) hv o2 (now _ (by omega))
  have ox := inF_ok (a := a.1) hv o1
  have oy := inF_ok (a := a.2) hv o2
  have ow : okL (u.v + g.ins + g.ands.length) (u.v + g.ins + 1 + (i : Int)) := ⟨by omega, by omega, by omega⟩
  have lw : litC vs (u.v + g.ins + 1 + (i : Int)) = (litV (valsG g st inp) a.1 && litV (valsG g st inp) a.2) := by
    rw [← vals_gate hg h.sl h.il ha, ← now (firstN g + i) (by omega)]
    congr 1
    unfold nowA
    rw [if_pos ⟨by omega, by omega⟩]
    omega
  simp only [andCl, List.mem_cons, List.not_mem_nil, or_false] at hc
  rcases hc with rfl | rfl | rfl <;> simp only [List.any_cons, List.any_nil, litC_neg hv ow, litC_neg hv ox, litC_neg hv oy, lw, lx, ly] <;> cases litV (valsG g st inp) a.1 <;> cases litV (valsG g st inp) a.2 <;> rfl
end Go.Proofs.Ytpbfkpdfodmcaaa
