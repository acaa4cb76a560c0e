/- Where the names of one side stand. -/
import Derived.Test.YtadodccciejghaaAlike
import Derived.Maps.OwnSet
import Derived.Maps.OwnOps
import Derived.Maps.Views
import Derived.DataShut
import Derived.Test.YtadodccciejghaaRange
namespace Go.Proofs.Ytadodccciejghaa
open Go.RowKit Go.Maps
set_option maxRecDepth 100000

theorem law9 : Keyed Try.prog 9 := string_keyed Try.underlying9
theorem key9 (s : ByteArray) (h : s.size ≤ maxLen) : keyOf Try.prog 9 (.string s) = some (.string s.data.toList) := Go.WideMaps.keyOf_string_mk Try.underlying9 h
theorem zero3 (w : World) : (zeroValue 3).run Try.prog w = .ok (.int .i64 0) w := by kernel_rfl
/-- the places of the first k texts -/
def plD (l : List ByteArray) : Nat → DataW Unit
  | 0 => .map []
  | k + 1 => match l[k]? with
    | some s => (plD l k).put (.string s.data.toList) (.lit (.int .i64 k))
    | none => plD l k
theorem plD_map (l : List ByteArray) : ∀ k, IsMap (plD l k)
  | 0 => isMap_empty
  | k + 1 => by
    rw [plD]
    split
    · exact (plD_map l k).put _ _
    · exact plD_map l k
theorem plD_succ (l : List ByteArray) (k : Nat) (s : ByteArray) (h : l[k]? = some s) : plD l (k + 1) = (plD l k).put (.string s.data.toList) (.lit (.int .i64 k)) := by
  rw [plD, h]
theorem key_ne (s t : ByteArray) (h : s ≠ t) : (Lit.string s.data.toList) ≠ Lit.string t.data.toList := fun e => h (bytes_inj _ _ (by injection e))
theorem pl_has (l : List ByteArray) (s : ByteArray) : ∀ k, k ≤ l.length → Maps.has (plD l k) (.string s.data.toList) = usedB (l.take k) s
  | 0, _ => by simp [plD, usedB, Maps.has]
  | k + 1, hk => by
    obtain ⟨x, hx⟩ : ∃ x, l[k]? = some x := ⟨l[k], List.getElem?_eq_getElem (by omega)⟩
    rw [plD_succ l k x hx, List.take_add_one, hx]
    by_cases e : s = x
    · subst e
      rw [has_put_same (k := .string s.data.toList) (plD_map l k) (by trivial)]
      exact ((usedB_iff _ s).2 (by simp)).symm
    · rw [has_put_other (key_ne s x e), pl_has l s k (by omega)]
      unfold usedB
      rw [List.any_append]
      have : ([x].any fun y => y.data.toList == s.data.toList) = false := by
        rw [List.any_cons, List.any_nil, Bool.or_false, beq_eq_false_iff_ne]
        exact fun h => e (bytes_inj _ _ h.symm)
      simp only [Option.toList_some, this, Bool.or_false]
theorem pl_at (l : List ByteArray) (s : ByteArray) (z : DataW Unit) : ∀ k, k ≤ l.length → s ∈ l.take k → ∃ i : Nat, i < k ∧ l[i]? = some s ∧ (plD l k).atKey (.string s.data.toList) z = .lit (.int .i64 i)
  | 0, _, h => by simp at h
  | k + 1, hk, h => by
    obtain ⟨x, hx⟩ : ∃ x, l[k]? = some x := ⟨l[k], List.getElem?_eq_getElem (by omega)⟩
    rw [plD_succ l k x hx]
    by_cases e : s = x
    · subst e
      exact ⟨k, by omega, hx, atKey_put_same (k := .string s.data.toList) (plD_map l k) (by trivial) _ _⟩
    · rw [atKey_put_other (key_ne s x e)]
      rw [List.take_add_one, hx] at h
      rcases List.mem_append.1 h with h | h
      · obtain ⟨i, h1, h2, h3⟩ := pl_at l s z k (by omega) h
        exact ⟨i, by omega, h2, h3⟩
      · simp at h
        exact absurd h e
/-- was one of the first k there before -/
def twB (l : List ByteArray) : Nat → Bool
  | 0 => false
  | k + 1 => twB l k || (match l[k]? with | some s => usedB (l.take k) s | none => false)
theorem tw_iff (l : List ByteArray) : ∀ k, k ≤ l.length → (twB l k = false ↔ ∀ (i : Nat) (s : ByteArray), i < k → l[i]? = some s → s ∉ l.take i)
  | 0, _ => ⟨fun _ i s h => absurd h (by omega), fun _ => rfl⟩
  | k + 1, hk => by
    have ih := tw_iff l k (by omega)
    obtain ⟨x, hx⟩ : ∃ x, l[k]? = some x := ⟨l[k], List.getElem?_eq_getElem (by omega)⟩
    rw [twB, hx, Bool.or_eq_false_iff, ih]
    constructor
    · rintro ⟨h1, h2⟩ i s hi hs
      by_cases hik : i < k
      · exact h1 i s hik hs
      · have : i = k := by omega
        subst this
        rw [hx] at hs
        cases hs
        intro hm
        simp only [] at h2
        rw [(usedB_iff _ _).2 hm] at h2
        cases h2
    · intro h
      refine ⟨fun i s hi hs => h i s (by omega) hs, ?_⟩
      simp only []
      rw [Bool.eq_false_iff]
      intro hu
      exact h k x (by omega) hx ((usedB_iff _ _).1 hu)
theorem tw_once (l : List ByteArray) : twB l l.length = false ↔ Once l := by
  rw [tw_iff l l.length (Nat.le_refl _), once_iff]
  constructor
  · intro h i s hs
    exact h i s (List.getElem?_eq_some_iff.1 hs).1 hs
  · intro h i s _ hs
    exact h i s hs

/-- what stands where the names of a side do -/
def Side (w : World) (l : List ByteArray) (e : Ending) (w' : World) : Prop :=
  ∃ b, e = .returned (.agg #[.map (some b), .bool (twB l l.length)]) ∧ w.heap.size ≤ b ∧ b < w'.heap.size ∧ w'.ownsMap Try.prog 9 (plainElem Try.prog 3) b l.length (plD l l.length) ∧ Below w.heap.size w w'

set_option maxHeartbeats 1000000 in
theorem side_any (l : List ByteArray) (v : Value) (w : World) (hl : l.length ≤ 100000) (hz : ∀ x ∈ l, x.size ≤ maxLen) (ht : Lst stc w v l) : Calls Try.prog 63 #[v] w (Side w l) := by
  have hmm := @run_makeMap Try.prog
  have HT := Lib.hid ht
  obtain ⟨b, c, rfl⟩ := ht.slice
  clear ht
  have HZ := Lib.hid hz
  clear hz
  go_enter Try.func63, Try.ntmps63
  have K0 := Lib.hid (((Blk.new w #[.map none, .bool false] 101).alloc (.map #[] 0)).alloc (.cells #[.map (some (w.heap.size + 1)), .bool false] 101))
  have k2 := Blk.new ((w.alloc (.cells #[.map none, .bool false] 101)).alloc (.map #[] 0)) #[.map (some (w.heap.size + 1)), .bool false] 101
  have hom := (World.ownsMap_made (H := Unit) (w.alloc (.cells #[.map none, .bool false] 101)) Try.prog 9 (plainElem Try.prog 3)).alloc (.cells #[.map (some (w.heap.size + 1)), .bool false] 101)
  rw [World.size_alloc] at hom
  rw [World.size_alloc, World.size_alloc] at k2
  have HB0 := Lib.hid ((((Below.refl w.heap.size w).alloc (Nat.le_refl _) (.cells #[.map none, .bool false] 101)).alloc (by simp) (.map #[] 0)).alloc (by simp; omega) (.cells #[.map (some (w.heap.size + 1)), .bool false] 101))
  have K2 := Lib.hid k2
  have HOM := Lib.hid hom
  clear k2 hom
  go_wp2
  go_loopw [12] (fun i wr => ∃ k : Nat, k ≤ l.length ∧ i = .int .i64 (k : Int) ∧ Blk wr w.heap.size #[.map none, .bool false] 101 ∧ Blk wr (w.heap.size + 1 + 1) #[.map (some (w.heap.size + 1)), .bool (twB l k)] 101 ∧
    wr.ownsMap Try.prog 9 (plainElem Try.prog 3) (w.heap.size + 1) k (plD l k) ∧ Below w.heap.size w wr) (fun i _ => l.length - (intOf i).toNat)
  case atStart => exact ⟨0, by omega, rfl, K0.out, K2.out, HOM.out, HB0.out⟩
  case round =>
    obtain ⟨k, hk, rfl, hb1, hb2, hown, hB⟩ := hrel
    have c0 := hb2.cell 0
    have c1 := hb2.cell 1
    have f0 := hb2.frozen 0
    have f1 := hb2.frozen 1
    simp at c0 c1
    have B1 := Lib.hid hb1
    have B2 := Lib.hid hb2
    have HB := Lib.hid hB
    clear hb1 hb2
    by_cases hlt : k < l.length
    · have hlt' : (k : Int) < (l.length : Int) := by omega
      obtain ⟨g, o, cq, x, hx, hv, hg, hc⟩ := HT.out.at_ stc_len hlt
      injection hv with hb _ hcc
      subst hb hcc
      have d0 : wr.cell? ⟨g, o + k, none⟩ = some (.string x) := (hB.cell (p := ⟨g, o + k, none⟩) hg).trans (by have := hc 0 (by omega); simpa [stc] using this)
      have hkey := key9 x (HZ.out x (List.mem_of_getElem? hx))
      have HAS := Lib.hid (pl_has l x k hk)
      have PLS := Lib.hid (plD_succ l k x hx)
      have hwf : (Lit.int .i64 (k : Int)).wf = true := (Lit.wf_int_iff .i64 (k : Int)).2 (by show -9223372036854775808 ≤ (k : Int) ∧ (k : Int) ≤ 9223372036854775807; omega)
      have TW := Lib.hid (show twB l (k + 1) = (twB l k || usedB (l.take k) x) from by rw [twB, hx])
      have hws := hown.lt
      clear hc hx hB
      cases hu : usedB (l.take k) x
      · rw [hu] at HAS
        have TWS := Lib.hid (show twB l (k + 1) = twB l k from by rw [TW.out, hu, Bool.or_false])
        generalize twB l k = tw at *
        clear TW hu
        go_wp2_with (first | (at_lookup; refine wpList_lookup_own_ok_int (H := Unit) _ rfl _ _ 99 rfl 9 3 .i64 law9 Try.underlying99 Try.underlying3 (zero3 _) _ k _ rfl hown _ _ rfl hkey ?_; intro cc hat hwc; clear hat hwc; rw [HAS.out]) | (at_mapUpdate; refine wpList_mapUpdate_own (H := Unit) _ rfl _ _ _ 99 rfl 9 3 law9 Try.underlying99 (plainElem Try.prog 3) (w.heap.size + 1) k _ rfl hown (by unfold maxLen; omega) _ _ _ rfl rfl hkey (.lit (.int .i64 k)) [] (plainElem_int Try.underlying3 hwf) ?_; intro w1 hown1 hgrow1))

        have E1 := grown_keeps hgrow1 B1.out (by simp)
        have E2 := grown_keeps hgrow1 B2.out (by simp)
        refine ⟨⟨k + 1, by omega, by go_num, E1, ?_, ?_, Below.grown HB.out hgrow1 (by have := (HB.out).size; omega) (fun j e => by cases e; omega)⟩, ?_⟩
        · rw [TWS.out]; exact E2
        · rw [PLS.out]; exact hown1
        · simp [intOf]; omega
      · rw [hu] at HAS
        have TWS := Lib.hid (show twB l (k + 1) = true from by rw [TW.out, hu, Bool.or_true])
        generalize twB l k = tw at *
        clear TW hu
        have hown2 := hown.setCell (a := ⟨w.heap.size + 1 + 1, 1, none⟩) (by simp) (.bool true)
        have G1 : Blk (wr.setCell ⟨w.heap.size + 1 + 1, 1, none⟩ (.bool true)) w.heap.size #[.map none, .bool false] 101 := (RowKit.Below.heap_setCell _ _ _ _ (by show w.heap.size ≠ w.heap.size + 1 + 1; omega)).trans B1.out
        have G2 : Blk (wr.setCell ⟨w.heap.size + 1 + 1, 1, none⟩ (.bool true)) (w.heap.size + 1 + 1) #[.map (some (w.heap.size + 1)), .bool true] 101 := B2.out.set 1 (.bool true)
        have GB := Lib.hid (HB.out.setCell (p := ⟨w.heap.size + 1 + 1, 1, none⟩) (by simp; omega) (.bool true))
        have H1 := Lib.hid G1
        have H2 := Lib.hid G2
        have g0 := G2.cell 0
        have g1 := G2.cell 1
        have e0 := G2.frozen 0
        simp at g0 g1
        clear G1 G2
        go_wp2_with (first | (at_lookup; refine wpList_lookup_own_ok_int (H := Unit) _ rfl _ _ 99 rfl 9 3 .i64 law9 Try.underlying99 Try.underlying3 (zero3 _) _ k _ rfl hown _ _ rfl hkey ?_; intro cc hat hwc; clear hat hwc; rw [HAS.out]) | (at_mapUpdate; refine wpList_mapUpdate_own (H := Unit) _ rfl _ _ _ 99 rfl 9 3 law9 Try.underlying99 (plainElem Try.prog 3) (w.heap.size + 1) k _ rfl hown2 (by unfold maxLen; omega) _ _ _ rfl rfl hkey (.lit (.int .i64 k)) [] (plainElem_int Try.underlying3 hwf) ?_; intro w1 hown1 hgrow1))
        have E1 := grown_keeps hgrow1 H1.out (by simp)
        have E2 := grown_keeps hgrow1 H2.out (by simp)
        refine ⟨⟨k + 1, by omega, by go_num, E1, ?_, ?_, Below.grown GB.out hgrow1 (by have := GB.out.size; omega) (fun j e => by cases e; omega)⟩, ?_⟩
        · rw [TWS.out]; exact E2
        · rw [PLS.out]; exact hown1
        · simp [intOf]; omega
    · have hge : (l.length : Int) ≤ (k : Int) := by omega
      have hkl : k = l.length := by omega
      subst hkl
      have a0 := B1.out.cell 0
      have a1 := B1.out.cell 1
      have r0 := B1.out.frozen 0
      have r1 := B1.out.frozen 1
      simp at a0 a1
      have HO := Lib.hid hown
      obtain ⟨tw, htw⟩ : ∃ b, twB l l.length = b := ⟨_, rfl⟩
      have HTW := Lib.hid htw
      have H2 := Lib.hid ((B1.out.set 0 (.map (some (w.heap.size + 1)))).set 1 (.bool tw))
      have HB3 := Lib.hid ((HB.out.setCell (p := ⟨w.heap.size, 0, none⟩) (Nat.le_refl _) (.map (some (w.heap.size + 1)))).setCell (p := ⟨w.heap.size, 1, none⟩) (Nat.le_refl _) (.bool tw))
      rw [htw] at c1
      clear hB htw
      go_wp2
      refine bodyPost_ret (results_cell_row rfl _ _ w.heap.size 101 #[.map (some (w.heap.size + 1)), .bool tw] (0, 0) _ rfl H2.out Try.underlying101 rfl (by kernel_rfl)) rfl ?_
      have HM := (HO.out.setCell (a := ⟨w.heap.size, 0, none⟩) (by show w.heap.size + 1 ≠ w.heap.size; omega) (.map (some (w.heap.size + 1)))).setCell (a := ⟨w.heap.size, 1, none⟩) (by show w.heap.size + 1 ≠ w.heap.size; omega) (.bool tw)
      exact ⟨w.heap.size + 1, by rw [HTW.out], by omega, HM.lt, HM, HB3.out⟩
end Go.Proofs.Ytadodccciejghaa
