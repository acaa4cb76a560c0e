/- Fresh: a name that is not used. -/
import Derived.Test.YtfljnhmpelpdaaaDoorNumd
import Derived.Maps.OwnIn
import Derived.RangeFuncBox
namespace Go.Proofs.YtfljnhmpelpdaaaDoor
open Go.RowKit Go.Shelf Go.Maps
attribute [local go_sem] Oper.semAt_some

def stc (s : ByteArray) : List Value := [.string s]
theorem stc_len (s : ByteArray) : (stc s).length = 1 := rfl
/-- the used ones that begin with the stem -/
def frL (used : List ByteArray) (stem : ByteArray) (k : Nat) : List Lit := ((used.take k).filter fun y => Lib.hasPrefix y.data.toList stem.data.toList).map fun y => Lit.string y.data.toList
def frS (used : List ByteArray) (stem : ByteArray) (k : Nat) : DataW Unit := setOf (.agg []) (frL used stem k)
theorem frS_yes (used : List ByteArray) (stem : ByteArray) (k : Nat) (y : ByteArray) (h : used[k]? = some y) (hp : Lib.hasPrefix y.data.toList stem.data.toList = true) : (frS used stem k).put (.string y.data.toList) (.agg []) = frS used stem (k + 1) := by
  unfold frS frL
  rw [List.take_add_one, h, List.filter_append, List.map_append]
  simp [hp, setOf_snoc]
theorem frS_no (used : List ByteArray) (stem : ByteArray) (k : Nat) (y : ByteArray) (h : used[k]? = some y) (hp : Lib.hasPrefix y.data.toList stem.data.toList = false) : frS used stem k = frS used stem (k + 1) := by
  unfold frS frL
  rw [List.take_add_one, h, List.filter_append, List.map_append]
  simp [hp]
theorem num_prefix (stem : ByteArray) (i : Nat) : Lib.hasPrefix (numS stem i).data.toList stem.data.toList = true := by
  unfold Lib.hasPrefix numS
  rw [List.isPrefixOf_iff_prefix, ByteArray.data_append, Array.toList_append]
  exact List.prefix_append _ _
theorem bytes_inj (a b : ByteArray) (h : a.data.toList = b.data.toList) : a = b := by
  apply ByteArray.ext
  exact Array.ext' h
def usedB (used : List ByteArray) (s : ByteArray) : Bool := used.any fun y => y.data.toList == s.data.toList
theorem usedB_iff (used : List ByteArray) (s : ByteArray) : usedB used s = true ↔ s ∈ used := by
  unfold usedB
  simp only [List.any_eq_true, beq_iff_eq]
  constructor
  · rintro ⟨y, hy, he⟩
    rw [← bytes_inj _ _ he]
    exact hy
  · intro h
    exact ⟨_, h, rfl⟩
theorem has_fr (used : List ByteArray) (stem : ByteArray) (i : Nat) : Maps.has (frS used stem used.length) (Lit.string (numS stem i).data.toList) = usedB used (numS stem i) := by
  unfold frS frL
  rw [has_setOf _ _ _ (fun x hx => by
    obtain ⟨y, _, rfl⟩ := List.mem_map.1 hx
    trivial), List.take_length, Bool.eq_iff_iff, usedB_iff]
  simp only [List.any_map, List.any_eq_true, List.mem_filter, Function.comp, Lit.sameKey, beq_iff_eq]
  constructor
  · rintro ⟨y, ⟨hy, _⟩, he⟩
    rw [← bytes_inj _ _ he]
    exact hy
  · intro h
    exact ⟨_, ⟨h, num_prefix stem i⟩, rfl⟩
theorem dec_inj (i j : Nat) (hi : i < 100) (hj : j < 100) (h : dec i = dec j) : i = j := by
  have := (by decide +kernel : ∀ i j : Fin 100, (Lib.decDigits i.val == Lib.decDigits j.val) = decide (i.val = j.val)) ⟨i, hi⟩ ⟨j, hj⟩
  have h2 : Lib.decDigits i = Lib.decDigits j := by
    have := congrArg (fun b : ByteArray => b.data.toList) h
    simpa [dec] using this
  rw [h2] at this
  simpa using this.symm
theorem num_inj (stem : ByteArray) (i j : Nat) (hi : i < 100) (hj : j < 100) (h : numS stem i = numS stem j) : i = j := by
  refine dec_inj i j hi hj (bytes_inj _ _ ?_)
  have := congrArg (fun b : ByteArray => b.data.toList) h
  simpa [numS, ByteArray.data_append] using this
/-- pigeons: different things that are all on a list are no more than it has -/
theorem pigeon {α : Type} [DecidableEq α] : ∀ (l m : List α), l.Pairwise (· ≠ ·) → (∀ x ∈ l, x ∈ m) → l.length ≤ m.length
  | [], m, _, _ => Nat.zero_le _
  | x :: l, m, h, hm => by
    have hx := hm x (by simp)
    have h1 := pigeon l (m.erase x) (List.Pairwise.of_cons h) (fun y hy => by
      have hne : x ≠ y := (List.pairwise_cons.1 h).1 y hy
      exact (List.mem_erase_of_ne (fun e => hne e.symm)).2 (hm y (by simp [hy])))
    have h2 := List.length_erase_of_mem hx
    have h3 : 0 < m.length := List.length_pos_of_mem hx
    simp only [List.length_cons]
    omega
theorem nums_bound (used : List ByteArray) (stem : ByteArray) (k : Nat) (hu : used.length ≤ 60) (h : ∀ y ∈ nums stem k, y ∈ used) : k ≤ used.length := by
  by_cases hk : k ≤ used.length
  · exact hk
  · exfalso
    have hp : (nums stem (used.length + 1)).Pairwise (· ≠ ·) := by
      unfold nums
      rw [List.pairwise_map]
      refine List.Pairwise.imp_of_mem ?_ (List.pairwise_lt_range (n := used.length + 1))
      intro a b ha hb hab he
      have ha' := List.mem_range.1 ha
      have hb' := List.mem_range.1 hb
      have := num_inj stem (a + 1) (b + 1) (by omega) (by omega) he
      omega
    have hs : ∀ y ∈ nums stem (used.length + 1), y ∈ used := by
      intro y hy
      refine h y ?_
      unfold nums at hy ⊢
      obtain ⟨i, hi, rfl⟩ := List.mem_map.1 hy
      exact List.mem_map.2 ⟨i, List.mem_range.2 (by have := List.mem_range.1 hi; omega), rfl⟩
    have := pigeon _ _ hp hs
    simp [nums] at this
    omega
def IsFresh (used : List ByteArray) (stem r : ByteArray) : Prop :=
  ∃ k, 1 ≤ k ∧ k ≤ used.length + 1 ∧ r = numS stem k ∧ r ∉ used ∧ ∀ j, 1 ≤ j → j < k → numS stem j ∈ used

/-- between two rounds -/
def frI (w : World) (used : List ByteArray) (stem : ByteArray) (pre : List ByteArray) (W : World) : Prop :=
  (∃ k, pre = nums stem k) ∧ (∀ y ∈ pre, y ∈ used) ∧ Blk W w.heap.size #[.string ⟨#[]⟩] 9 ∧ Blk W (w.heap.size + 1 + 1) #[.map (some (w.heap.size + 1))] 51 ∧
    W.ownsMap Tryd.prog 9 unitElem (w.heap.size + 1) used.length (frS used stem used.length) ∧ Below w.heap.size w W
/-- where a round ends all -/
def frX (w : World) (used : List ByteArray) (c : Code) (pre : List ByteArray) (W : World) : Prop :=
  c = .ret ∧ ∃ pre' x, pre = pre' ++ [x] ∧ x ∉ used ∧ (∀ y ∈ pre', y ∈ used) ∧ Blk W w.heap.size #[.string x] 9 ∧ Below w.heap.size w W
theorem frI_kept {w W W' : World} {used : List ByteArray} {stem : ByteArray} {pre : List ByteArray} {row : Option Nat} (h : frI w used stem pre W) (hg : W.grownBy W' row) (hr : ∀ r, row = some r → w.heap.size + 3 ≤ r) : frI w used stem pre W' := by
  obtain ⟨h1, h2, h3, h4, h5, h6⟩ := h
  refine ⟨h1, h2, grown_keeps hg h3 (fun e => by have := hr _ e; omega), grown_keeps hg h4 (fun e => by have := hr _ e; omega), h5.kept hg (fun e => ?_), h6.grown hg h6.size (fun r e => by have := hr _ e; omega)⟩
  have := hr _ e.symm
  omega
theorem frX_kept {w W W' : World} {used : List ByteArray} {c : Code} {pre : List ByteArray} {row : Option Nat} (h : frX w used c pre W) (hg : W.grownBy W' row) (hr : ∀ r, row = some r → w.heap.size + 3 ≤ r) : frX w used c pre W' := by
  obtain ⟨h1, pre', x, h2, h3, h4, h5, h6⟩ := h
  exact ⟨h1, pre', x, h2, h3, h4, grown_keeps hg h5 (fun e => by have := hr _ e; omega), h6.grown hg h6.size (fun r e => by have := hr _ e; omega)⟩
theorem frI_bound {w W : World} {used : List ByteArray} {stem : ByteArray} {pre : List ByteArray} (hu : used.length ≤ 60) (h : frI w used stem pre W) : pre.length < 99 := by
  obtain ⟨⟨k, rfl⟩, h2, _⟩ := h
  have := nums_bound used stem k hu h2
  simp [nums]
  omega
theorem nums_last (stem : ByteArray) (pre : List ByteArray) (x : ByteArray) (k : Nat) (h : pre ++ [x] = nums stem k) : ∃ j, k = j + 1 ∧ pre = nums stem j ∧ x = numS stem (j + 1) := by
  cases k with
  | zero => simp [nums] at h
  | succ j =>
    rw [nums_succ] at h
    have := List.append_inj' h rfl
    exact ⟨j, rfl, this.1, by simpa using this.2⟩
theorem isFresh_of (used : List ByteArray) (stem : ByteArray) (pre' : List ByteArray) (x : ByteArray) (k : Nat) (hu : used.length ≤ 60) (h : pre' ++ [x] = nums stem k) (hx : x ∉ used) (hp : ∀ y ∈ pre', y ∈ used) : IsFresh used stem x := by
  obtain ⟨j, rfl, rfl, rfl⟩ := nums_last stem pre' x k h
  refine ⟨j + 1, by omega, by have := nums_bound used stem j hu hp; omega, rfl, hx, fun i h1 h2 => hp _ ?_⟩
  unfold nums
  exact List.mem_map.2 ⟨i - 1, List.mem_range.2 (by omega), by rw [show i - 1 + 1 = i from by omega]⟩

set_option maxRecDepth 100000 in
set_option maxHeartbeats 2000000 in
theorem fresh_any (used : List ByteArray) (v : Value) (stem : ByteArray) (w : World) (hu : used.length ≤ 60) (hz : ∀ y ∈ used, y.size ≤ maxLen) (hs : stem.size ≤ 100000) (ht : Lst stc w v used) :
    Calls Tryd.prog 13 #[v, .string stem] w fun e w' => ∃ r, e = .returned (.string r) ∧ IsFresh used stem r ∧ Below w.heap.size w w' := by
  have HT := Lib.hid ht
  have HZ := Lib.hid hz
  obtain ⟨b, c, rfl⟩ := ht.slice
  clear ht hz
  have hmm := @run_makeMap Tryd.prog
  refine (callsIn_wide (n := 5)).1 ?_
  refine callsIn_of_wp_marks Tryd.func13 rfl trivial ?_ rfl
  simp only [Tryd.ntmps13, List.size_toArray, List.length_cons, List.length_nil, Nat.reduceAdd, Nat.reduceSub, Array.replicate_succ, Array.replicate_zero, List.push_toArray, List.append_toArray, List.nil_append, List.cons_append]
  gi_wp2
  have e2 : w.heap.size + 1 + 1 = w.heap.size + 2 := by omega
  have k0 := ((Blk.new w #[.string ⟨#[]⟩] 9).alloc (.map #[] 0)).alloc (.cells #[.map (some (w.heap.size + 1))] 51)
  have k2 := Blk.new ((w.alloc (.cells #[.string ⟨#[]⟩] 9)).alloc (.map #[] 0)) #[.map (some (w.heap.size + 1))] 51
  have km := (World.ownsMap_made (w.alloc (.cells #[.string ⟨#[]⟩] 9)) Tryd.prog 9 (unitElem (H := Unit))).alloc (.cells #[.map (some (w.heap.size + 1))] 51)
  have hB0 : Below w.heap.size w (((w.alloc (.cells #[.string ⟨#[]⟩] 9)).alloc (.map #[] 0)).alloc (.cells #[.map (some (w.heap.size + 1))] 51)) :=
    (((Below.refl _ w).alloc (Nat.le_refl _) _).alloc (by simp) _).alloc (by simp; omega) _
  have hsz0 : w.heap.size + 3 ≤ (((w.alloc (.cells #[.string ⟨#[]⟩] 9)).alloc (.map #[] 0)).alloc (.cells #[.map (some (w.heap.size + 1))] 51)).heap.size := by simp
  simp only [World.size_alloc] at k2 km
  generalize ((w.alloc (.cells #[.string ⟨#[]⟩] 9)).alloc (.map #[] 0)).alloc (.cells #[.map (some (w.heap.size + 1))] 51) = W0 at k0 k2 km hB0 hsz0
  clear e2
  gi_loopw [7, 14] (fun x i wr => ∃ k : Nat, k ≤ used.length ∧ i = .int .i64 (k : Int) ∧ Blk wr w.heap.size #[.string ⟨#[]⟩] 9 ∧ Blk wr (w.heap.size + 1 + 1) #[.map (some (w.heap.size + 1))] 51 ∧ wr.ownsMap Tryd.prog 9 unitElem (w.heap.size + 1) k (frS used stem k) ∧ Below w.heap.size w wr ∧ w.heap.size + 3 ≤ wr.heap.size) (fun _ i _ => used.length - (intOf i).toNat)
  case atStart => exact ⟨0, Nat.zero_le _, rfl, k0, k2, km, hB0, hsz0⟩
  case round =>
    obtain ⟨k, hk, rfl, hb0, hb2, hown, hB, hsz⟩ := hrel
    clear k0 k2 km hB0 hsz0
    have hc2 := hb2.cell 0
    simp at hc2
    by_cases hlt : k < used.length
    · have hlt' : (k : Int) < (used.length : Int) := by omega
      obtain ⟨g, o, cc, x, hx, hv, hg, hc⟩ := HT.out.at_ stc_len hlt
      injection hv with hb _ hcc
      subst hb hcc
      have c0 := (hB.cell (p := ⟨g, o + k * 1 + 0, none⟩) hg).trans (hc 0 (by omega))
      simp [stc] at c0
      have hxz := HZ.out x (List.mem_of_getElem? hx)
      have hkey := key9 x hxz
      have HB0 := Lib.hid hb0
      have HB2 := Lib.hid hb2
      have HB := Lib.hid hB
      cases hp : Lib.hasPrefix x.data.toList stem.data.toList
      · have HF := Lib.hid (frS_no used stem k x hx hp)
        have HP := Lib.hid hp
        have HO := Lib.hid (hown.mono (Nat.le_succ k))
        clear hc hx hp hb0 hb2 hB hown hkey
        gi_wp2_with fail
        refine ⟨trivial, (callsIn_wide.2 (Tryd.strings_HasPrefix x stem _)).mono ?_⟩
        rw [HP.out]
        rintro e w' ⟨rfl, rfl⟩
        gi_wp2
        refine ⟨⟨k + 1, by omega, by go_num, HB0.out, HB2.out, by rw [← HF.out]; exact HO.out, HB.out, hsz⟩, ?_⟩
        simp [intOf]; omega
      · have HF := Lib.hid (frS_yes used stem k x hx hp)
        have HP := Lib.hid hp
        clear hc hx hp hb0 hb2 hB
        gi_wp2_with fail
        refine ⟨trivial, (callsIn_wide.2 (Tryd.strings_HasPrefix x stem _)).mono ?_⟩
        rw [HP.out]
        rintro e w' ⟨rfl, rfl⟩
        gi_wp2_with (gi_at_mapUpdate; refine wpListIn_mapUpdate_own (H := Unit) _ rfl _ _ _ 51 rfl 9 53 law9 Tryd.underlying51 unitElem (w.heap.size + 1) k _ rfl hown (by unfold maxLen; omega) _ _ _ rfl rfl hkey (.agg []) [] unitElem_mk ?_; intro w1 hown1 hgrow1)
        have j0 : Blk w1 w.heap.size #[.string ⟨#[]⟩] 9 := grown_keeps hgrow1 HB0.out (by simp)
        have j2 : Blk w1 (w.heap.size + 1 + 1) #[.map (some (w.heap.size + 1))] 51 := grown_keeps hgrow1 HB2.out (by simp)
        have jB := HB.out.grown hgrow1 HB.out.size (fun j hj => by cases hj; omega)
        have js := hgrow1.size
        rw [HF.out] at hown1
        refine ⟨⟨k + 1, by omega, by go_num, j0, j2, hown1, jB, by omega⟩, ?_⟩
        simp [intOf]; omega
    · have hge : (used.length : Int) ≤ (k : Int) := by omega
      have hkl : k = used.length := by omega
      subst hkl
      have HB0 := Lib.hid hb0
      have HB2 := Lib.hid hb2
      have HB := Lib.hid hB
      have HO := Lib.hid hown
      clear hb0 hb2 hB hown hc2
      gi_wp2_with fail
      refine ⟨trivial, (callsIn_wide.2 (mknum stem _)).mono ?_⟩
      rintro e w' ⟨rfl, rfl⟩
      gi_wp2_with fail
      have i0 : frI w used stem [] (wr.alloc (.cells #[.string stem] 9)) := ⟨⟨0, rfl⟩, (fun y h => by cases h), HB0.out.alloc _, HB2.out.alloc _, HO.out.alloc _, HB.out.alloc HB.out.size _⟩
      have bN := Blk.new wr #[.string stem] 9
      have hsN : w.heap.size + 3 ≤ wr.heap.size := hsz
      have hs1 : (wr.alloc (.cells #[.string stem] 9)).heap.size = wr.heap.size + 1 := by simp
      have I0 := Lib.hid i0
      clear i0 HB0 HB2 HB HO
      refine range_over (α := ByteArray) (gf := 51) (lb := #[.pointer (some ⟨wr.heap.size, 0, none⟩)]) (N := 99) rfl (by omega) rfl trivial (enters_of Tryd.func51 (by kernel_rfl) rfl)
        (numd_iter wr.heap.size stem hs _ bN) (fun r h => h.elim) (fun h k => k.trans h) (fun W l o hl => World.putObj_heap_other (by simp at hl; omega)) (fun _ => rfl)
        (frI w used stem) (frX w used) (fun pre W W' row h hg hr => frI_kept h hg (fun r e => by have := (hr r e).1; simp at this; omega)) (fun pre W1 h => frI_bound hu h) (fun pre A B row h hg hr => frI_kept h hg (fun r e => (hr r e).elim))
        (fun cd pre W W' row h hg hr => frX_kept h hg (fun r e => by have := (hr r e).1; simp at this; omega)) I0.out
        (fun x => { tmps := #[.slice b used.length c, .string stem, undef, undef, .pointer (some ⟨w.heap.size, 0, none⟩), .pointer (some ⟨w.heap.size + 1 + 1, 0, none⟩), undef, u7, .string x, undef, undef, .map (some (w.heap.size + 1)), .slice b used.length c, .int .i64 (used.length : Int), .int .i64 (used.length : Int), .bool false, u16, u17, u18, u19, u20, u21, u22, u23, u24, .string stem, .func (.func 51) #[] #[.pointer (some ⟨wr.heap.size, 0, none⟩)], .string x, undef, undef, undef, undef, undef, undef, undef, undef, undef], defers := [] }) ?assign ?body ?done ?stop
      case assign =>
        intro l x W K hK
        gi_wp2
        exact hK
      case body =>
        rintro l pre x W hsW hI hlt ⟨k, hpf⟩
        obtain ⟨j, rfl, rfl, rfl⟩ := nums_last stem pre x k hpf
        obtain ⟨h1, h2, h3, h4, h5, h6⟩ := hI
        have hj := nums_bound used stem j hu h2
        have hds := dec_size (j + 1) (by omega)
        have hkey := key9 (numS stem (j + 1)) (by unfold numS maxLen; rw [ByteArray.size_append]; omega)
        have HHAS := Lib.hid (has_fr used stem (j + 1))
        have HIFF := Lib.hid (usedB_iff used (numS stem (j + 1)))
        have HNS := Lib.hid (nums_succ stem j)
        generalize numS stem (j + 1) = x at hkey HHAS HIFF HNS hpf
        have c4 := h4.cell 0
        simp at c4
        have H2 := Lib.hid h2
        have H3 := Lib.hid h3
        have H4 := Lib.hid h4
        have H5 := Lib.hid h5
        have H6 := Lib.hid h6
        have hsW' : w.heap.size + 3 ≤ W.heap.size := by simp at hsW; omega
        have hsW2 : wr.heap.size < W.heap.size := by simp at hsW; omega
        clear h1 h2 h3 h4 h6 hlt hpf hsW
        cases hq : usedB used x
        · have hnx : x ∉ used := fun h => by rw [HIFF.out.2 h] at hq; cases hq
          have HNX := Lib.hid hnx
          rw [hq] at HHAS
          clear hnx hq
          have f3 := (H3.out.alloc (.cells #[] 53)).frozen 0
          have c3 := (H3.out.alloc (.cells #[] 53)).cell 0
          simp at c3
          gi_wp2_with (gi_at_lookup; refine wpListIn_lookup_own_unit (H := Unit) _ rfl _ _ 51 rfl 9 53 law9 Tryd.underlying51 (zero53 _) _ used.length _ rfl h5 _ _ rfl hkey ?_; rw [HHAS.out])
          have q3 := (H3.out.alloc (.cells #[] 53)).set 0 (.string x)
          have qB := (H6.out.alloc H6.out.size (.cells #[] 53)).setCell (p := ⟨w.heap.size, 0, none⟩) (Nat.le_refl _) (.string x)
          refine ⟨?_, rfl, nums stem j, x, rfl, HNX.out, H2.out, ?_, ?_⟩
          · exact (KeepsFrom.of_grownBy (World.grownBy_alloc W (.cells #[] 53) none) (fun j e => by cases e)).trans (KeepsFrom.of_grownBy (grownBy_setCell' _ w.heap.size (.string x)) (fun j e => by cases e; simp; omega))
          · first | exact q3 | (trace_state; fail)
          · first | exact qB | (trace_state; fail)
        · have hnx : x ∈ used := HIFF.out.1 hq
          have HNX := Lib.hid hnx
          rw [hq] at HHAS
          clear hnx hq
          gi_wp2_with (gi_at_lookup; refine wpListIn_lookup_own_unit (H := Unit) _ rfl _ _ 51 rfl 9 53 law9 Tryd.underlying51 (zero53 _) _ used.length _ rfl h5 _ _ rfl hkey ?_; rw [HHAS.out])
          refine ⟨KeepsFrom.of_grownBy (World.grownBy_alloc W (.cells #[] 53) none) (fun j e => by cases e), Below.heap_alloc W _ _ hsW2, ⟨j + 1, HNS.out.symm⟩, ?_, H3.out.alloc _, H4.out.alloc _, h5.alloc _, H6.out.alloc H6.out.size _⟩
          intro y hy
          rcases List.mem_append.1 hy with hy | hy
          · exact H2.out y hy
          · rw [List.mem_singleton.1 hy]; exact HNX.out
      case done =>
        rintro D ys W hD h
        exact h.elim
      case stop =>
        rintro D cd pre W hD ⟨k, hk⟩ ⟨rfl, pre', x, rfl, h1, h2, h3, h4⟩ hK
        have HF := Lib.hid (isFresh_of used stem pre' x k hu hk h1 h2)
        have hK2 := hK
        have hDn : D ≠ w.heap.size := by simp at hD; omega
        have h3' : Blk (W.putObj D (.deferred none)) w.heap.size #[.string x] 9 := (World.putObj_heap_other (Ne.symm hDn)).trans h3
        have c3 := h3'.cell 0
        simp at c3
        have HB := Lib.hid (h4.trans (belowK_b (w := w) (Nat.le_refl _) W D _ (.deferred none) (by simp at hD; omega) hK rfl rfl))
        clear h3 h4 hk h1 h2 h3'
        gi_wp2
        refine ⟨by simp, .inl ⟨_, _, rfl, run_takeDeferred hK2, ?_⟩⟩
        refine ⟨.string x, ?_, x, rfl, HF.out, HB.out⟩
        simp [results, Tryd.results13, go_sem, c3]
end Go.Proofs.YtfljnhmpelpdaaaDoor
