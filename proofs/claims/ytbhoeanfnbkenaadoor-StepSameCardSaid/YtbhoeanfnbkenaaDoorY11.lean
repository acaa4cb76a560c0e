import Derived.Test.YtbhoeanfnbkenaaDoorY7
namespace Go.Proofs.YtbhoeanfnbkenaaDoor
open Go.RowKit
set_option maxRecDepth 100000
set_option linter.unusedSimpArgs false
theorem getD_set_ne {l : List Bool} {i j : Nat} {v : Bool} (h : i ≠ j) : (l.set i v).getD j false = l.getD j false := by
  rw [List.getD_eq_getElem?_getD, List.getD_eq_getElem?_getD, List.getElem?_set_ne h]
theorem getD_set_eq {l : List Bool} {i : Nat} {v : Bool} (h : i < l.length) : (l.set i v).getD i false = v := by
  rw [List.getD_eq_getElem?_getD, List.getElem?_set_self h]
  rfl
def valOf (c : Ci) (st ii : List Bool) (s : ByteArray) : Bool := (valsC c st ii).getD (plN c s) false
structure SatV (c : Ci) (st ii : List Bool) (f : ByteArray → Bool) : Prop where
  ins : ∀ (i : Nat) s, c.ins[i]? = some s → f s = ii.getD i false
  las : ∀ (i : Nat) x, c.las[i]? = some x → f x.name = st.getD i false
  gts : ∀ g ∈ c.gts, f g.name = gateV g (g.ins.map f)
theorem vals_keep {c : Ci} {st ii : List Bool} {m p : Nat} (hp : p < c.ins.length + c.las.length ∨ ∃ j, j ∈ (sortG c.gts).1.take m ∧ p = c.ins.length + c.las.length + j) : ∀ d, m + d ≤ (sortG c.gts).1.length → (valsN c st ii (m + d)).getD p false = (valsN c st ii m).getD p false
  | 0, _ => rfl
  | d + 1, h => by
    have ih := vals_keep (st := st) (ii := ii) hp d (by omega)
    have hlt : m + d < (sortG c.gts).1.length := by omega
    have hk := List.getElem?_eq_getElem hlt
    rw [show m + (d + 1) = m + d + 1 by omega, valsN_succ hk]
    unfold valStep
    rw [getD_set_ne]
    · exact ih
    · rcases hp with hp | ⟨j, hj, rfl⟩
      · omega
      · intro e
        have hj2 : j ∈ (sortG c.gts).1.take (m + d) := by
          obtain ⟨b, hb, e2⟩ := List.mem_take_iff_getElem.1 hj
          exact List.mem_take_iff_getElem.2 ⟨b, by omega, e2⟩
        have : (sortG c.gts).1[m + d] = j := by omega
        exact (sortG_ok c.gts).fresh hk (this ▸ hj2)
theorem vals_at {c : Ci} {st ii : List Bool} {m p : Nat} (hm : m ≤ (sortG c.gts).1.length) (hp : p < c.ins.length + c.las.length ∨ ∃ j, j ∈ (sortG c.gts).1.take m ∧ p = c.ins.length + c.las.length + j) : (valsC c st ii).getD p false = (valsN c st ii m).getD p false := by
  have := vals_keep (st := st) (ii := ii) hp ((sortG c.gts).1.length - m) (by omega)
  rw [show m + ((sortG c.gts).1.length - m) = (sortG c.gts).1.length by omega] at this
  exact this
theorem plN_ins {c : Ci} (hm : May c) {i : Nat} {s : ByteArray} (h : c.ins[i]? = some s) : plN c s = i := by
  have hl := (List.getElem?_eq_some_iff.1 h).1
  have h1 : (netsC c)[i]? = some s := by unfold netsC; rw [List.getElem?_append_left hl]; exact h
  have h2 : plC c s = (i : Nat) := ixI_once hm.once h1
  unfold plN
  rw [h2]
  rfl
theorem plN_las {c : Ci} (hm : May c) {i : Nat} {x : La} (h : c.las[i]? = some x) : plN c x.name = c.ins.length + i := by
  have hl := (List.getElem?_eq_some_iff.1 h).1
  have h1 : (netsC c)[c.ins.length + i]? = some x.name := by
    unfold netsC
    rw [List.getElem?_append_right (by omega), Nat.add_sub_cancel_left, List.getElem?_append_left (by rw [List.length_map]; exact hl), List.getElem?_map, h]
    rfl
  have h2 : plC c x.name = ((c.ins.length + i : Nat) : Int) := ixI_once hm.once h1
  unfold plN
  rw [h2]
  rfl
theorem plN_gts {c : Ci} (hm : May c) {k : Nat} (h : k < c.gts.length) : plN c (gat c.gts k).name = c.ins.length + c.las.length + k := by
  unfold plN
  rw [pl_gate hm h]
  rfl
theorem nets_case {c : Ci} {s : ByteArray} (h : s ∈ netsC c) : (∃ i : Nat, c.ins[i]? = some s) ∨ (∃ (i : Nat) (x : La), c.las[i]? = some x ∧ x.name = s) ∨ ∃ k, k < c.gts.length ∧ (gat c.gts k).name = s := by
  unfold netsC at h
  simp only [List.mem_append, List.mem_map] at h
  rcases h with h | ⟨x, hx, e⟩ | ⟨g, hg, e⟩
  · exact .inl (List.getElem?_of_mem h)
  · obtain ⟨i, hi⟩ := List.getElem?_of_mem hx
    exact .inr (.inl ⟨i, x, hi, e⟩)
  · obtain ⟨k, hk, e2⟩ := List.getElem_of_mem hg
    refine .inr (.inr ⟨k, hk, ?_⟩)
    have := gat_get hk
    rw [List.getElem?_eq_getElem hk, e2] at this
    rw [← Option.some.inj this]
    exact e
theorem vals_sat {c : Ci} (hm : MayC c) (hz : neverG c.gts = []) {st ii : List Bool} (hs : st.length = c.las.length) (hi : ii.length = c.ins.length) : SatV c st ii (valOf c st ii) := by
  have hmay := hm.may
  have ho := sortG_ok c.gts
  refine ⟨fun i s h => ?_, fun i x h => ?_, fun g hg => ?_⟩
  · have hl := (List.getElem?_eq_some_iff.1 h).1
    unfold valOf
    rw [plN_ins hmay h, vals_at (m := 0) (Nat.zero_le _) (.inl (by omega))]
    show ((ii ++ st ++ List.replicate c.gts.length false).getD i false) = _
    rw [List.getD_eq_getElem?_getD, List.getD_eq_getElem?_getD, List.append_assoc, List.getElem?_append_left (by omega)]
  · have hl := (List.getElem?_eq_some_iff.1 h).1
    unfold valOf
    rw [plN_las hmay h, vals_at (m := 0) (Nat.zero_le _) (.inl (by omega))]
    show ((ii ++ st ++ List.replicate c.gts.length false).getD _ false) = _
    rw [List.getD_eq_getElem?_getD, List.getD_eq_getElem?_getD, List.append_assoc, List.getElem?_append_right (by omega), hi, Nat.add_sub_cancel_left, List.getElem?_append_left (by omega)]
  · obtain ⟨k, hk, e⟩ := List.getElem_of_mem hg
    have hgk : gat c.gts k = g := by
      have := gat_get hk
      rw [List.getElem?_eq_getElem hk, e] at this
      exact (Option.some.inj this).symm
    obtain ⟨m, hml, hmk⟩ := List.getElem_of_mem ((never_nil hz).2 k hk)
    have hkm : (sortG c.gts).1[m]? = some k := by rw [List.getElem?_eq_getElem hml, hmk]
    have hmem : k ∈ (sortG c.gts).1.take (m + 1) := List.mem_take_iff_getElem.2 ⟨m, by omega, hmk⟩
    have h1 : valOf c st ii g.name = gateV g (gvs c (valsN c st ii m) g.ins) := by
      unfold valOf
      rw [← hgk, plN_gts hmay hk, vals_at (m := m + 1) (by omega) (.inr ⟨k, hmem, rfl⟩), valsN_succ hkm]
      unfold valStep
      rw [getD_set_eq (by rw [valsN_len]; omega)]
    rw [h1]
    congr 1
    unfold gvs
    refine List.map_congr_left fun s hs2 => ?_
    have hsn : s ∈ netsC c := hm.used s (by
      unfold usedC
      exact List.mem_append_right _ (List.mem_append_right _ (List.mem_flatMap.2 ⟨g, hg, hs2⟩)))
    unfold valOf
    refine (vals_at (by omega) ?_).symm
    rcases nets_case hsn with ⟨i, h⟩ | ⟨i, x, h, rfl⟩ | ⟨j, hj, ej⟩
    · have hl := (List.getElem?_eq_some_iff.1 h).1
      exact .inl (by rw [plN_ins hmay h]; omega)
    · have hl := (List.getElem?_eq_some_iff.1 h).1
      exact .inl (by rw [plN_las hmay h]; omega)
    · refine .inr ⟨j, ho.ins hkm (by rw [hgk]; exact hs2) hj ej, ?_⟩
      rw [← ej, plN_gts hmay hj]
theorem sat_one {c : Ci} (hm : MayC c) (hz : neverG c.gts = []) {st ii : List Bool} {f f' : ByteArray → Bool} (h : SatV c st ii f) (h' : SatV c st ii f') : ∀ s ∈ netsC c, f s = f' s := by
  have ho := sortG_ok c.gts
  have base : ∀ s, (∃ i : Nat, c.ins[i]? = some s) ∨ (∃ (i : Nat) (x : La), c.las[i]? = some x ∧ x.name = s) → f s = f' s := fun s hs => by
    rcases hs with ⟨i, hi⟩ | ⟨i, x, hi, rfl⟩
    · rw [h.ins i s hi, h'.ins i s hi]
    · rw [h.las i x hi, h'.las i x hi]
  have key : ∀ (n m k : Nat), m < n → (sortG c.gts).1[m]? = some k → f (gat c.gts k).name = f' (gat c.gts k).name := fun n => by
    induction n with
    | zero => exact fun m k hm => absurd hm (Nat.not_lt_zero m)
    | succ n ih =>
      intro m k hmn hk
      have hkl := ho.lt k (List.mem_of_getElem? hk)
      rw [h.gts _ (gat_ins hkl), h'.gts _ (gat_ins hkl)]
      congr 1
      refine List.map_congr_left fun s hs => ?_
      have hsn : s ∈ netsC c := hm.used s (by
        unfold usedC
        exact List.mem_append_right _ (List.mem_append_right _ (List.mem_flatMap.2 ⟨_, gat_ins hkl, hs⟩)))
      rcases nets_case hsn with hc | hc | ⟨j, hj, ej⟩
      · exact base s (.inl hc)
      · exact base s (.inr hc)
      · obtain ⟨b, hb, e⟩ := List.mem_take_iff_getElem.1 (ho.ins hk hs hj ej)
        rw [← ej]
        exact ih b j (by omega) (by rw [List.getElem?_eq_getElem (by omega), e])
  intro s hs
  rcases nets_case hs with hc | hc | ⟨k, hk, e⟩
  · exact base s (.inl hc)
  · exact base s (.inr hc)
  · obtain ⟨m, hml, hmk⟩ := List.getElem_of_mem ((never_nil hz).2 k hk)
    rw [← e]
    exact key (m + 1) m k (by omega) (by rw [List.getElem?_eq_getElem hml, hmk])
theorem outs_val (c : Ci) (st ii : List Bool) : outsC c (valsC c st ii) = c.outs.map (valOf c st ii) := rfl
theorem next_val (c : Ci) (st ii : List Bool) : nextC c (valsC c st ii) = c.las.map fun x => valOf c st ii x.next := by
  unfold nextC gvs nxtL
  rw [List.map_map]
  rfl
theorem step_perm {c : Ci} (hm : MayC c) (hz : neverG c.gts = []) {gs : List Gt} (hp : gs.Perm c.gts) {st ii : List Bool} (hs : st.length = c.las.length) (hi : ii.length = c.ins.length) :
    outsC ⟨c.ins, c.outs, c.las, gs⟩ (valsC ⟨c.ins, c.outs, c.las, gs⟩ st ii) = outsC c (valsC c st ii) ∧ nextC ⟨c.ins, c.outs, c.las, gs⟩ (valsC ⟨c.ins, c.outs, c.las, gs⟩ st ii) = nextC c (valsC c st ii) := by
  have hm2 := hm.perm hp
  have hz2 : neverG gs = [] := never_sub (may_uniq hm.may) hz fun g hg => hp.mem_iff.1 hg
  have h1 := vals_sat hm2 hz2 (st := st) (ii := ii) hs hi
  have h2 := vals_sat hm hz hs hi
  have h3 : SatV c st ii (valOf ⟨c.ins, c.outs, c.las, gs⟩ st ii) := ⟨h1.ins, h1.las, fun g hg => h1.gts g (hp.mem_iff.2 hg)⟩
  have h4 := sat_one hm hz h3 h2
  rw [outs_val, outs_val, next_val, next_val]
  refine ⟨List.map_congr_left fun s hs2 => h4 s (hm.used s (List.mem_append_left _ hs2)), List.map_congr_left fun x hx => h4 x.next (hm.used _ (List.mem_append_right _ (List.mem_append_left _ (List.mem_map.2 ⟨x, hx, rfl⟩))))⟩
theorem run_perm {c : Ci} (hm : MayC c) (hz : neverG c.gts = []) {gs : List Gt} (hp : gs.Perm c.gts) {st : List Bool} {seq : List (List Bool)} (hs : st.length = c.las.length) (hq : ∀ x ∈ seq, x.length = c.ins.length) :
    ∀ k, k ≤ seq.length → stN ⟨c.ins, c.outs, c.las, gs⟩ st seq k = stN c st seq k ∧ ∀ j, j < k → outN ⟨c.ins, c.outs, c.las, gs⟩ st seq j = outN c st seq j
  | 0, _ => ⟨rfl, fun j hj => absurd hj (Nat.not_lt_zero j)⟩
  | k + 1, hk => by
    obtain ⟨h1, h2⟩ := run_perm hm hz hp hs hq k (by omega)
    have hx : (seq.getD k []).length = c.ins.length := by
      rw [List.getD_eq_getElem?_getD, List.getElem?_eq_getElem (by omega)]
      exact hq _ (List.getElem_mem _)
    have h3 := step_perm hm hz hp (st := stN c st seq k) (ii := seq.getD k []) (stN_len hs k) hx
    refine ⟨?_, fun j hj => ?_⟩
    · show nextC _ (valsC _ (stN _ st seq k) _) = nextC c (valsC c (stN c st seq k) _)
      rw [h1]
      exact h3.2
    · rcases Nat.lt_or_eq_of_le (Nat.lt_succ_iff.1 hj) with h | rfl
      · exact h2 j h
      · unfold outN
        rw [h1]
        exact h3.1
def leftL (p : ByteArray → Bool) : List La → List Bool → List Bool
  | x :: l, v :: st => if p x.name = true then v :: leftL p l st else leftL p l st
  | _, _ => []
theorem leftL_len (p : ByteArray → Bool) : ∀ (l : List La) (st : List Bool), st.length = l.length → (leftL p l st).length = (l.filter fun x => p x.name).length
  | [], _, _ => by cases ‹List Bool› <;> rfl
  | x :: l, [], h => by simp at h
  | x :: l, v :: st, h => by
    have ih := leftL_len p l st (by simpa using h)
    unfold leftL
    rw [List.filter_cons]
    split
    · rw [List.length_cons, List.length_cons, ih]
    · exact ih
theorem leftL_get (p : ByteArray → Bool) (f : ByteArray → Bool) : ∀ (l : List La) (st : List Bool), st.length = l.length → (∀ (i : Nat) x, l[i]? = some x → f x.name = st.getD i false) → ∀ (i : Nat) x, (l.filter fun x => p x.name)[i]? = some x → f x.name = (leftL p l st).getD i false
  | [], _, _, _ => fun i x h => by simp at h
  | y :: l, [], h, _ => by simp at h
  | y :: l, v :: st, h, hf => by
    intro i x hx
    have ih := leftL_get p f l st (by simpa using h) (fun i x hx => by have := hf (i + 1) x (by rw [List.getElem?_cons_succ]; exact hx); simpa using this)
    unfold leftL
    rw [List.filter_cons] at hx
    by_cases hp : p y.name = true
    · rw [if_pos hp] at hx ⊢
      cases i with
      | zero =>
        simp only [List.getElem?_cons_zero, Option.some.injEq] at hx
        subst hx
        have := hf 0 y rfl
        simpa using this
      | succ i =>
        rw [List.getElem?_cons_succ] at hx
        have := ih i x hx
        simpa using this
    · rw [if_neg hp] at hx ⊢
      exact ih i x hx
theorem leftL_map (p : ByteArray → Bool) (f : La → Bool) : ∀ l : List La, leftL p l (l.map f) = (l.filter fun x => p x.name).map f
  | [] => rfl
  | x :: l => by
    have ih := leftL_map p f l
    rw [List.map_cons]
    unfold leftL
    rw [List.filter_cons]
    split
    · rw [List.map_cons, ih]
    · exact ih
theorem step_trim {c : Ci} (hm : MayC c) (hz : neverG c.gts = []) {st ii : List Bool} (hs : st.length = c.las.length) (hi : ii.length = c.ins.length) :
    outsC (trimD c) (valsC (trimD c) (leftL (keepB c) c.las st) ii) = outsC c (valsC c st ii) ∧ nextC (trimD c) (valsC (trimD c) (leftL (keepB c) c.las st) ii) = leftL (keepB c) c.las (nextC c (valsC c st ii)) := by
  have hm2 := trimD_may hm
  have hz2 : neverG (trimD c).gts = [] := never_sub (may_uniq hm.may) hz fun g hg => (List.mem_filter.1 hg).1
  have hl : (leftL (keepB c) c.las st).length = (trimD c).las.length := leftL_len _ _ _ hs
  have h1 := vals_sat hm2 hz2 (st := leftL (keepB c) c.las st) (ii := ii) hl hi
  have h2 := vals_sat hm hz hs hi
  have h3 : SatV (trimD c) (leftL (keepB c) c.las st) ii (valOf c st ii) := ⟨h2.ins, leftL_get _ _ _ _ hs h2.las, fun g hg => h2.gts g (List.mem_filter.1 hg).1⟩
  have h4 := sat_one hm2 hz2 h1 h3
  rw [outs_val, outs_val, next_val, next_val, leftL_map]
  refine ⟨List.map_congr_left fun s hs2 => h4 s (hm2.used s (List.mem_append_left _ hs2)), List.map_congr_left fun x hx => h4 x.next (hm2.used _ (List.mem_append_right _ (List.mem_append_left _ (List.mem_map.2 ⟨x, hx, rfl⟩))))⟩
theorem run_trim {c : Ci} (hm : MayC c) (hz : neverG c.gts = []) {st : List Bool} {seq : List (List Bool)} (hs : st.length = c.las.length) (hq : ∀ x ∈ seq, x.length = c.ins.length) :
    ∀ k, k ≤ seq.length → stN (trimD c) (leftL (keepB c) c.las st) seq k = leftL (keepB c) c.las (stN c st seq k) ∧ ∀ j, j < k → outN (trimD c) (leftL (keepB c) c.las st) seq j = outN c st seq j
  | 0, _ => ⟨rfl, fun j hj => absurd hj (Nat.not_lt_zero j)⟩
  | k + 1, hk => by
    obtain ⟨h1, h2⟩ := run_trim hm hz hs hq k (by omega)
    have hx : (seq.getD k []).length = c.ins.length := by
      rw [List.getD_eq_getElem?_getD, List.getElem?_eq_getElem (by omega)]
      exact hq _ (List.getElem_mem _)
    have h3 := step_trim hm hz (st := stN c st seq k) (ii := seq.getD k []) (stN_len hs k) hx
    refine ⟨?_, fun j hj => ?_⟩
    · show nextC _ (valsC _ (stN _ _ seq k) _) = leftL _ _ (nextC c (valsC c (stN c st seq k) _))
      rw [h1]
      exact h3.2
    · rcases Nat.lt_or_eq_of_le (Nat.lt_succ_iff.1 hj) with h | rfl
      · exact h2 j h
      · unfold outN
        rw [h1]
        exact h3.1
end Go.Proofs.YtbhoeanfnbkenaaDoor
