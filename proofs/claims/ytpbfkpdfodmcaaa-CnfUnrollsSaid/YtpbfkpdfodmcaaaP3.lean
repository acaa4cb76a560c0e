import Derived.Test.YtpbfkpdfodmcaaaP1
import Derived.Test.YtpbfkpdfodmcaaaE6
namespace Go.Proofs.Ytpbfkpdfodmcaaa
open Go.RowKit
set_option linter.unusedSimpArgs false
theorem getD_app_l {α : Type} {d : α} {l m : List α} {j : Nat} (h : j < l.length) : (l ++ m).getD j d = l.getD j d := by
  rw [List.getD_eq_getElem?_getD, List.getD_eq_getElem?_getD, List.getElem?_append_left h]
theorem getD_app_r {α : Type} {d : α} {l m : List α} {j k : Nat} (h : j = l.length + k) : (l ++ m).getD j d = m.getD k d := by
  subst h
  rw [List.getD_eq_getElem?_getD, List.getD_eq_getElem?_getD, List.getElem?_append_right (Nat.le_add_right _ _), Nat.add_sub_cancel_left]
theorem fold_pre (l : List (Int × Int)) : ∀ (v : List Bool) (j : Nat), j < v.length → (l.foldl vstep v).getD j false = v.getD j false := by
  induction l with
  | nil => intro v j _; rfl
  | cons a l ih =>
    intro v j hj
    show (l.foldl vstep (vstep v a)).getD j false = _
    rw [ih _ j (by unfold vstep; rw [List.length_append]; omega)]
    exact getD_app_l hj
theorem fold_gate {l : List (Int × Int)} {v : List Bool} {i : Nat} {a : Int × Int} (ha : l[i]? = some a) (h1 : (a.1 / 2).toNat < v.length + i) (h2 : (a.2 / 2).toNat < v.length + i) :
    (l.foldl vstep v).getD (v.length + i) false = (litV (l.foldl vstep v) a.1 && litV (l.foldl vstep v) a.2) := by
  have hi := (List.getElem?_eq_some_iff.1 ha).1
  have e : l = l.take i ++ (a :: l.drop (i + 1)) := by
    have := (List.getElem?_eq_some_iff.1 ha).2
    rw [← this, List.getElem_cons_drop, List.take_append_drop]
  have hW : ((l.take i).foldl vstep v).length = v.length + i := by
    rw [vals_len, List.length_take]
    omega
  have hV : l.foldl vstep v = (l.drop (i + 1)).foldl vstep (vstep ((l.take i).foldl vstep v) a) := by
    conv => lhs; rw [e]
    rw [List.foldl_append, List.foldl_cons]
  have hlen : (vstep ((l.take i).foldl vstep v) a).length = v.length + i + 1 := by
    show ((l.take i).foldl vstep v ++ [_]).length = _
    rw [List.length_append, hW]
    rfl
  have hlow : ∀ j, j < v.length + i → (l.foldl vstep v).getD j false = ((l.take i).foldl vstep v).getD j false := fun j hj => by
    rw [hV, fold_pre _ _ j (by omega)]
    exact getD_app_l (by omega)
  unfold litV
  rw [hlow _ h1, hlow _ h2, hV, fold_pre _ _ _ (by omega)]
  show ((l.take i).foldl vstep v ++ [litV ((l.take i).foldl vstep v) a.1 && litV ((l.take i).foldl vstep v) a.2]).getD (v.length + i) false = _
  rw [getD_app_r (k := 0) (by rw [hW]; rfl)]
  rfl
theorem vals_low {g : G} {s i : List Bool} (hs : s.length = g.next.length) (hi : (i.length : Int) = g.ins) {j : Nat} (hj : j < firstN g) : (valsG g s i).getD j false = (false :: (i ++ s)).getD j false :=
  fold_pre _ _ _ (by rw [List.length_cons, List.length_append]; unfold firstN at hj; omega)
theorem vals_gate {g : G} {s i : List Bool} (hg : GOk g g.N) (hs : s.length = g.next.length) (hi : (i.length : Int) = g.ins) {k : Nat} {a : Int × Int} (ha : g.ands[k]? = some a) : (valsG g s i).getD (firstN g + k) false = (litV (valsG g s i) a.1 && litV (valsG g s i) a.2) := by
  obtain ⟨⟨_, p2, _⟩, ⟨_, p5, _⟩⟩ := hg.an k a ha
  have hl : (false :: (i ++ s)).length = firstN g := by
    rw [List.length_cons, List.length_append]
    unfold firstN
    omega
  have := fold_gate (v := false :: (i ++ s)) ha (by rw [hl]; exact p2) (by rw [hl]; exact p5)
  rw [hl] at this
  exact this
theorem litC_neg {vs : List Bool} {v x : Int} (hv : v ≤ 1000000) (h : okL v x) : litC vs (negW x) = !litC vs x := by
  obtain ⟨e, _⟩ := h.neg hv
  rw [e]
  obtain ⟨h0, _⟩ := h
  unfold litC
  by_cases hx : x < 0
  · rw [if_pos hx, if_neg (by omega), Bool.not_not]
  · rw [if_neg hx, if_pos (by omega), show 0 - (0 - x) - 1 = x - 1 by omega]
theorem litC_in {vs V : List Bool} {v a : Int} {f : Nat → Int} (hv : v ≤ 1000000) (ho : okL v (f (a / 2).toNat)) (he : litC vs (f (a / 2).toNat) = V.getD (a / 2).toNat false) : litC vs (inF f a) = litV V a := by
  unfold inF litV
  by_cases h : a % 2 = 1
  · rw [if_pos h, litC_neg hv ho, he, decide_eq_true h, Bool.bne_true]
  · rw [if_neg h, he, decide_eq_false h, Bool.bne_false]
theorem litC_pos {vs : List Bool} {x : Int} {k : Nat} (h : x = (k : Int) + 1) : litC vs x = vs.getD k false := by
  unfold litC
  rw [if_neg (by omega), show (x - 1).toNat = k by omega]
theorem litC_m1 {vs : List Bool} (h : vs.getD 0 false = true) : litC vs (-1) = false := by
  show (!vs.getD 0 false) = false
  rw [h]
  rfl
/-- what stands at a step: the state, and what comes in -/
structure Sem (g : G) (vs : List Bool) (u : Us) (st inp : List Bool) : Prop where
  one : vs.getD 0 false = true
  sl : st.length = g.next.length
  il : (inp.length : Int) = g.ins
  lat : ∀ i, i < g.next.length → litC vs (u.f (1 + g.ins.toNat + i)) = st.getD i false
  come : ∀ j, j < g.ins.toNat → vs.getD (u.v.toNat + j) false = inp.getD j false
  gate : ∀ i a, g.ands[i]? = some a → (∀ j, j < firstN g + i → litC vs (nowA g u.v u.f g.ands.length j) = (valsG g st inp).getD j false) → vs.getD (u.v.toNat + g.ins.toNat + i) false = (valsG g st inp).getD (firstN g + i) false
theorem sem_now {g : G} {vs : List Bool} {u : Us} {st inp : List Bool} (hu : UOk g u) (h0 : 0 ≤ g.ins) (h : Sem g vs u st inp) : ∀ j, j < g.N → litC vs (nowA g u.v u.f g.ands.length j) = (valsG g st inp).getD j false := by
  intro j
  induction j using Nat.strongRecOn with
  | _ j ih =>
  intro hj
  have h1 := hu.v1
  have hN : g.N = firstN g + g.ands.length := rfl
  by_cases c1 : firstN g ≤ j
  · obtain ⟨i, rfl⟩ : ∃ i, j = firstN g + i := ⟨j - firstN g, by omega⟩
    obtain ⟨a, ha⟩ : ∃ a, g.ands[i]? = some a := ⟨_, List.getElem?_eq_getElem (by omega)⟩
    rw [← h.gate i a ha (fun j hj => ih j hj (by omega))]
    refine litC_pos ?_
    unfold nowA
    rw [if_pos ⟨c1, by omega⟩]
    omega
  rw [vals_low h.sl h.il (by omega)]
  have e : nowA g u.v u.f g.ands.length j = nowI u.v u.f g.ins.toNat j := if_neg (fun e => c1 e.1)
  rw [e]
  by_cases c2 : 1 ≤ j ∧ j < 1 + g.ins.toNat
  · have e2 : nowI u.v u.f g.ins.toNat j = u.v + j := if_pos c2
    obtain ⟨i, rfl⟩ : ∃ i, j = i + 1 := ⟨j - 1, by omega⟩
    have hil := h.il
    rw [e2, litC_pos (k := u.v.toNat + i) (by omega), h.come i (by omega), List.getD_cons_succ, getD_app_l (by omega)]
  have e2 : nowI u.v u.f g.ins.toNat j = u.f j := if_neg c2
  rw [e2]
  by_cases c3 : j = 0
  · subst c3
    rw [hu.f0, litC_m1 h.one]
    rfl
  · unfold firstN at c1
    obtain ⟨i, rfl⟩ : ∃ i, j = 1 + g.ins.toNat + i := ⟨j - 1 - g.ins.toNat, by omega⟩
    have hil := h.il
    rw [h.lat i (by omega), show 1 + g.ins.toNat + i = (g.ins.toNat + i) + 1 by omega, List.getD_cons_succ, getD_app_r (k := i) (by omega)]
theorem sem_next {g : G} {vs : List Bool} {u : Us} {st inp : List Bool} (hg : GOk g g.N) (hu : UOk g u) (hv : u.v + g.ins + g.ands.length ≤ 1000000) (h : Sem g vs u st inp) : ∀ i, i < g.next.length → litC vs ((unNext g u).f (1 + g.ins.toNat + i)) = (nextV g (valsG g st inp)).getD i false := fun i hi => by
  obtain ⟨x, hx⟩ : ∃ x, g.next[i]? = some x := ⟨_, List.getElem?_eq_getElem hi⟩
  have hnx := hg.nx x (List.mem_of_getElem? hx)
  show litC vs (nextF g (nowA g u.v u.f g.ands.length) g.next.length (1 + g.ins.toNat + i)) = _
  unfold nextF nextV
  rw [if_neg (by omega), if_pos (by omega), show 1 + g.ins.toNat + i - 1 - g.ins.toNat = i by omega, List.getD_eq_getElem?_getD, hx, List.getD_eq_getElem?_getD, List.getElem?_map, hx]
  exact litC_in hv (nowA_ok hg hu _ hnx.2.1) (sem_now hu hg.i0 h _ hnx.2.1)
theorem sem_cls {g : G} {vs : List Bool} {u : Us} {st inp : List Bool} (hg : GOk g g.N) (hu : UOk g u) (hv : u.v + g.ins + g.ands.length ≤ 1000000) (h : Sem g vs u st inp) : ∀ c ∈ clsA g u.v (nowA g u.v u.f g.ands.length) g.ands.length, c.any (litC vs) = true := fun c hc => by
  obtain ⟨i, hi, hc⟩ := List.mem_flatMap.1 hc
  replace hi := List.mem_range.1 hi
  obtain ⟨a, ha⟩ : ∃ a, g.ands[i]? = some a := ⟨_, List.getElem?_eq_getElem hi⟩
  rw [List.getD_eq_getElem?_getD, ha, Option.getD_some] at hc
  obtain ⟨⟨_, p2, _⟩, ⟨_, p5, _⟩⟩ := hg.an i a ha
  have hN : g.N = firstN g + g.ands.length := rfl
  have h0 := hg.i0
  have h1 := hu.v1
  have now := sem_now hu hg.i0 h
  have o1 := nowA_ok hg hu (a.1 / 2).toNat (by omega)
  have o2 := nowA_ok hg hu (a.2 / 2).toNat (by omega)
  have lx := litC_in (V := valsG g st inp) hv o1 (now _ (by omega))
  have ly := litC_in (V := valsG g st inp) hv o2 (now _ (by omega))
  have ox := inF_ok (a := a.1) hv o1
  have oy := inF_ok (a := a.2) hv o2
  have ow : okL (u.v + g.ins + g.ands.length) (u.v + g.ins + 1 + (i : Int)) := ⟨by omega, by omega, by omega⟩
  have lw : litC vs (u.v + g.ins + 1 + (i : Int)) = (litV (valsG g st inp) a.1 && litV (valsG g st inp) a.2) := by
    rw [← vals_gate hg h.sl h.il ha, ← now (firstN g + i) (by omega)]
    congr 1
    unfold nowA
    rw [if_pos ⟨by omega, by omega⟩]
    omega
  simp only [andCl, List.mem_cons, List.not_mem_nil, or_false] at hc
  rcases hc with rfl | rfl | rfl <;> simp only [List.any_cons, List.any_nil, litC_neg hv ow, litC_neg hv ox, litC_neg hv oy, lw, lx, ly] <;> cases litV (valsG g st inp) a.1 <;> cases litV (valsG g st inp) a.2 <;> rfl
end Go.Proofs.Ytpbfkpdfodmcaaa
namespace Go.Proofs.Ytpbfkpdfodmcaaa
open Go.RowKit
set_option linter.unusedSimpArgs false
theorem runB_app (g : G) : ∀ (q1 q2 : List (List Bool)) (s : List Bool), runB g s (q1 ++ q2) = runB g s q1 ++ runB g (stB g s q1) q2
  | [], _, _ => rfl
  | i :: q1, q2, s => by
    show i ++ (valsG g s i).drop (firstN g) ++ runB g (nextV g (valsG g s i)) (q1 ++ q2) = i ++ (valsG g s i).drop (firstN g) ++ runB g (nextV g (valsG g s i)) q1 ++ runB g (stB g (nextV g (valsG g s i)) q1) q2
    rw [runB_app g q1 q2, ← List.append_assoc]
theorem eithN_cons (b : Int) (l : List Int) : eithN (b :: l) = eithN l + if b = 2 then 1 else 0 := by
  unfold eithN
  rw [List.countP_cons]
  simp only [decide_eq_true_eq]
theorem eithS_cnt : ∀ {b : List Int} {s : List Bool}, s.length = b.length → (eithS b s).length = eithN b
  | [], [], _ => rfl
  | b :: bs, s :: ss, h => by
    have ih := eithS_cnt (b := bs) (s := ss) (by simpa using h)
    rw [eithN_cons, ← ih]
    show (if b = 2 then s :: eithS bs ss else eithS bs ss).length = _
    split <;> rfl
  | [], _ :: _, h => by cases h
  | _ :: _, [], h => by cases h
theorem eithS_get : ∀ {bs : List Int} {ss : List Bool} {i : Nat} {s : Bool}, bs[i]? = some 2 → ss[i]? = some s → (eithS bs ss).getD (eithN (bs.take i)) false = s
  | [], _, _, _, h, _ => by simp at h
  | _ :: _, [], _, _, _, h => by simp at h
  | b :: bs, s' :: ss, 0, s, h, h2 => by
    simp only [List.getElem?_cons_zero, Option.some.injEq] at h h2
    subst h h2
    rfl
  | b :: bs, s' :: ss, i + 1, s, h, h2 => by
    have ih := eithS_get (bs := bs) (ss := ss) (i := i) (s := s) (by simpa using h) (by simpa using h2)
    rw [List.take_succ_cons, eithN_cons]
    show (if b = 2 then s' :: eithS bs ss else eithS bs ss).getD _ false = s
    by_cases hb : b = 2
    · rw [if_pos hb, if_pos hb, List.getD_cons_succ, ih]
    · rw [if_neg hb, if_neg hb, Nat.add_zero, ih]
theorem vals_all {g : G} : ∀ (s i : List Bool), s.length = g.next.length → (i.length : Int) = g.ins → ((valsG g s i).drop (firstN g)).length = g.ands.length := vals_drop g
theorem valL_len {g : G} {begin : List Int} {state : List Bool} {seq : List (List Bool)} (hf : FitU g begin state seq) (hn : begin.length = g.next.length) : ((valL g begin state seq).length : Int) = (unU g begin seq.length).v := by
  obtain ⟨f1, f2, f3⟩ := hf
  have h := runB_len g vals_all seq state (by omega) f3
  rw [unU_v]
  show (((eithS begin state ++ runB g state seq).length + 1 : Nat) : Int) = _
  rw [List.length_append, eithS_cnt f1]
  omega
theorem split_at {seq : List (List Bool)} {t : Nat} {i : List Bool} (h : seq[t]? = some i) : seq = seq.take t ++ (i :: seq.drop (t + 1)) := by
  have := (List.getElem?_eq_some_iff.1 h).2
  rw [← this, List.getElem_cons_drop, List.take_append_drop]
theorem fit_take {g : G} {begin : List Int} {state : List Bool} {seq : List (List Bool)} (hf : FitU g begin state seq) (t : Nat) : FitU g begin state (seq.take t) := ⟨hf.1, hf.2.1, fun l hl => hf.2.2 l (List.mem_of_mem_take hl)⟩
theorem valL_at {g : G} {begin : List Int} {state : List Bool} {seq : List (List Bool)} (hf : FitU g begin state seq) (hn : begin.length = g.next.length) {t : Nat} {i : List Bool} (hi : seq[t]? = some i) {j : Nat} (hj : j < g.ins.toNat + g.ands.length) :
    (valL g begin state seq).getD ((unU g begin t).v.toNat + j) false = (i ++ (valsG g (stB g state (seq.take t)) i).drop (firstN g)).getD j false := by
  have ht := (List.getElem?_eq_some_iff.1 hi).1
  have e : valL g begin state seq = valL g begin state (seq.take t) ++ ((i ++ (valsG g (stB g state (seq.take t)) i).drop (firstN g)) ++ runB g (nextV g (valsG g (stB g state (seq.take t)) i)) (seq.drop (t + 1))) := by
    show true :: (eithS begin state ++ runB g state seq) = true :: (eithS begin state ++ runB g state (seq.take t)) ++ _
    conv => lhs; rw [split_at hi]
    rw [runB_app, ← List.append_assoc]
    rfl
  have hl := valL_len (fit_take hf t) hn
  rw [List.length_take, Nat.min_eq_left (by omega)] at hl
  have il := hf.2.2 i (List.mem_of_getElem? hi)
  have sl : (stB g state (seq.take t)).length = g.next.length := stB_len g _ _ (by have := hf.1; omega)
  rw [e, getD_app_r (k := j) (by omega), getD_app_l (by rw [List.length_append, vals_drop g _ _ sl il]; omega)]
theorem sem_at {g : G} {begin : List Int} {state : List Bool} {seq : List (List Bool)} (hf : FitU g begin state seq) (hn : begin.length = g.next.length) {t : Nat} {i : List Bool} (hi : seq[t]? = some i)
    (hlat : ∀ k, k < g.next.length → litC (valL g begin state seq) ((unU g begin t).f (1 + g.ins.toNat + k)) = (stB g state (seq.take t)).getD k false) : Sem g (valL g begin state seq) (unU g begin t) (stB g state (seq.take t)) i := by
  have il := hf.2.2 i (List.mem_of_getElem? hi)
  have sl : (stB g state (seq.take t)).length = g.next.length := stB_len g _ _ (by have := hf.1; omega)
  refine ⟨rfl, sl, il, hlat, fun j hj => ?_, fun k a ha _ => ?_⟩
  · rw [valL_at hf hn hi (by omega), getD_app_l (by omega)]
  · have hk := (List.getElem?_eq_some_iff.1 ha).1
    rw [Nat.add_assoc, valL_at hf hn hi (by omega), getD_app_r (k := k) (by omega), List.getD_eq_getElem?_getD, List.getElem?_drop, List.getD_eq_getElem?_getD]
theorem lat_0 {g : G} {begin : List Int} {state : List Bool} {seq : List (List Bool)} (hf : FitU g begin state seq) (hn : begin.length = g.next.length) (hb : begin.any badB = false) (k : Nat) (hk : k < g.next.length) :
    litC (valL g begin state seq) ((unU g begin 0).f (1 + g.ins.toNat + k)) = state.getD k false := by
  obtain ⟨b, hbk⟩ : ∃ x, begin[k]? = some x := ⟨_, List.getElem?_eq_getElem (by omega)⟩
  obtain ⟨s, hs⟩ : ∃ x, state[k]? = some x := ⟨_, List.getElem?_eq_getElem (by have := hf.1; omega)⟩
  have hbb := List.any_eq_false.1 hb b (List.mem_of_getElem? hbk)
  unfold badB at hbb
  replace hbb : ¬ (b < 0 ∨ 2 < b) := fun e => hbb (decide_eq_true e)
  show litC _ (firstF g begin begin.length (1 + g.ins.toNat + k)) = _
  unfold firstF
  rw [if_neg (by omega), if_pos (by omega), show 1 + g.ins.toNat + k - 1 - g.ins.toNat = k by omega, List.getD_eq_getElem?_getD, hs]
  unfold begV
  rw [List.getD_eq_getElem?_getD, hbk]
  show litC _ (if b = 0 then -1 else if b = 1 then 1 else _) = s
  by_cases h2 : b = 2
  · subst h2
    rw [if_neg (by decide), if_neg (by decide)]
    have e := eithN_take hbk
    rw [if_pos rfl] at e
    rw [litC_pos (k := 1 + eithN (begin.take k)) (by omega), Nat.add_comm]
    have hg := eithS_get hbk hs
    have hlt : eithN (begin.take k) < (eithS begin state).length := by
      rw [eithS_cnt hf.1]
      have h1 : eithN (begin.take (k + 1)) ≤ eithN begin := List.Sublist.countP_le (List.take_sublist _ _)
      omega
    show (true :: (eithS begin state ++ runB g state seq)).getD (eithN (begin.take k) + 1) false = s
    rw [List.getD_cons_succ, getD_app_l hlt, hg]
  · have h := hf.2.1 k b s hbk hs h2
    subst h
    by_cases h0 : b = 0
    · rw [if_pos h0, litC_m1 rfl, h0]
      rfl
    · rw [if_neg h0, if_pos (by omega), decide_eq_true (by omega)]
      exact litC_pos (k := 0) rfl
theorem lat_at {g : G} {begin : List Int} {state : List Bool} {seq : List (List Bool)} (hg : GOk g g.N) (hf : FitU g begin state seq) (hn : begin.length = g.next.length) (hb : begin.any badB = false) (hu : ∀ t, t ≤ seq.length → UOk g (unU g begin t)) (hv : ∀ t, t < seq.length → (unU g begin t).v + g.ins + g.ands.length ≤ 1000000) :
    ∀ t, t ≤ seq.length → ∀ k, k < g.next.length → litC (valL g begin state seq) ((unU g begin t).f (1 + g.ins.toNat + k)) = (stB g state (seq.take t)).getD k false
  | 0, _ => lat_0 hf hn hb
  | t + 1, ht => by
    obtain ⟨i, hi⟩ : ∃ x, seq[t]? = some x := ⟨_, List.getElem?_eq_getElem (by omega)⟩
    have h := sem_at hf hn hi (lat_at hg hf hn hb hu hv t (by omega))
    rw [List.take_add_one, hi]
    show ∀ k, k < g.next.length → litC _ ((unNext g (unU g begin t)).f _) = (stB g state (seq.take t ++ [i])).getD k false
    rw [stB_snoc]
    exact sem_next hg (hu t (by omega)) (hv t (by omega)) h
/-- what is so of the values of a run, and the clauses -/
structure RunF (g : G) (begin : List Int) (state : List Bool) (seq : List (List Bool)) (vs : List Bool) (u : Cn) : Prop where
  len : (vs.length : Int) = u.vars
  sat : (u.cls.all fun c => c.any (litC vs)) = true
  row : ∀ t i, seq[t]? = some i → ∃ r, u.rows[t]? = some r ∧ r.length = g.N ∧ ∀ j, j < g.N → ∃ x, r[j]? = some x ∧ okL u.vars x ∧ litC vs x = (valsG g (stB g state (seq.take t)) i).getD j false
  last : ∃ r, u.rows[seq.length]? = some r ∧ r.length = g.N ∧ ∀ k, k < g.next.length → ∃ x, r[1 + g.ins.toNat + k]? = some x ∧ okL u.vars x ∧ litC vs x = (stB g state seq).getD k false
theorem runs_of {g : G} {begin : List Int} {state : List Bool} {seq : List (List Bool)} (hq : unCheck g begin seq.length = 0) (hf : FitU g begin state seq) : RunF g begin state seq (valL g begin state seq) (unrC g begin seq.length) := by
  obtain ⟨q1, q2, q3, q4, q5, q6⟩ := unCheck_ok hq
  have hg := gok_of q1
  have h0 := hg.i0
  have hN := hg.hN
  have hle := hg.le
  have hb : ∀ i : Nat, i ≤ seq.length → (unU g begin i).v ≤ (unU g begin seq.length).v ∧ (unU g begin i).v + g.ins + g.ands.length ≤ 1000000 := fun i hi => by
    have hm := mul_in (k := (i : Int)) (q := g.ins + g.ands.length) (by omega) (by omega)
    have hm2 : (i : Int) * (g.ins + g.ands.length) ≤ (seq.length : Int) * (g.ins + g.ands.length) := Int.mul_le_mul_of_nonneg_right (by omega) (by omega)
    have := eithN_le begin
    rw [unU_v, unU_v]
    omega
  have hu : ∀ i : Nat, i ≤ seq.length → UOk g (unU g begin i) := fun i hi => unU_ok hg q2 i (fun j hj => (hb j (by omega)).2)
  have hlat := lat_at hg hf q2 q3 hu (fun t ht => (hb t (by omega)).2)
  have hs : ∀ t i, seq[t]? = some i → Sem g (valL g begin state seq) (unU g begin t) (stB g state (seq.take t)) i := fun t i hi => sem_at hf q2 hi (hlat t (Nat.le_of_lt (List.getElem?_eq_some_iff.1 hi).1))
  refine ⟨valL_len hf q2, ?_, fun t i hi => ?_, ?_⟩
  · have key : ∀ t, t ≤ seq.length → ∀ c ∈ (unU g begin t).cls, c.any (litC (valL g begin state seq)) = true := fun t => by
      induction t with
      | zero =>
        intro _ c hc
        obtain rfl := List.mem_singleton.1 hc
        have e : litC (valL g begin state seq) 1 = (valL g begin state seq).getD 0 false := litC_pos (k := 0) rfl
        rw [List.any_cons, e]
        rfl
      | succ t ih =>
        intro ht c hc
        obtain ⟨i, hi⟩ : ∃ x, seq[t]? = some x := ⟨_, List.getElem?_eq_getElem (by omega)⟩
        rcases List.mem_append.1 hc with hc | hc
        · exact ih (by omega) c hc
        · exact sem_cls hg (hu t (by omega)) (hb t (by omega)).2 (hs t i hi) c hc
    exact List.all_eq_true.2 (key seq.length (Nat.le_refl _))
  · have ht := (List.getElem?_eq_some_iff.1 hi).1
    have hut := hu t (by omega)
    have hvt := hb (t + 1) (by omega)
    refine ⟨mk g.N (nowA g (unU g begin t).v (unU g begin t).f g.ands.length), ?_, mk_len _ _, fun j hj => ⟨_, mk_get hj, ?_, sem_now hut h0 (hs t i hi) j hj⟩⟩
    · obtain ⟨e, he⟩ : ∃ e, seq.length = t + 1 + e := ⟨seq.length - (t + 1), by omega⟩
      obtain ⟨cs, rs, _, h2⟩ := unU_app g begin (t + 1) e
      show ((unU g begin seq.length).rows ++ [_])[t]? = _
      have hl := unU_rows g begin t
      rw [he, h2, List.append_assoc]
      show ((unU g begin t).rows ++ [mk g.N (nowA g (unU g begin t).v (unU g begin t).f g.ands.length)] ++ _)[t]? = _
      rw [List.append_assoc, List.getElem?_append_right (by omega), hl, Nat.sub_self]
      rfl
    · refine (nowA_ok hg hut j hj).mono ?_
      have : (unU g begin (t + 1)).v = (unU g begin t).v + g.ins + g.ands.length := rfl
      show _ ≤ (unU g begin seq.length).v
      omega
  · refine ⟨mk g.N (unU g begin seq.length).f, ?_, mk_len _ _, fun k hk => ⟨_, mk_get (by unfold G.N; omega), (hu _ (Nat.le_refl _)).lat _ (.inr ⟨by omega, by unfold firstN; omega⟩), ?_⟩⟩
    · show ((unU g begin seq.length).rows ++ [_])[seq.length]? = _
      have hl := unU_rows g begin seq.length
      rw [List.getElem?_append_right (by omega), hl, Nat.sub_self]
      rfl
    · have := hlat seq.length (Nat.le_refl _) k hk
      rw [List.take_length] at this
      exact this
end Go.Proofs.Ytpbfkpdfodmcaaa
