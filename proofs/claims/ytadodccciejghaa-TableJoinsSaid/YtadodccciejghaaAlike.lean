/- Rows of texts: are they alike; a copy of a table; a table of the document's. -/
import Derived.Test.YtadodccciejghaaNames
import Derived.Deep.RegionHeld3
import Derived.Laws.Rows
import Derived.Laws.EntriesVeiled
namespace Go.Proofs.Ytadodccciejghaa
open Go.RowKit
set_option maxRecDepth 100000

theorem below_drewN {B : Nat} {w W : World} (h : Below B w W) (n : Nat) : Below B w (W.drewN n) := ⟨h.os, h.tape, h.output, h.size, h.block⟩
def stEq (x y : ByteArray) : Bool := x.toList == y.toList
theorem stEq_self (x : ByteArray) : stEq x x = true := by simp [stEq]
set_option maxHeartbeats 1000000 in
theorem texts_any (l m : List ByteArray) (v u : Value) (w : World) (hl : l.length ≤ 100000) (_ : m.length ≤ 100000) (ht : Lst stc w v l) (hu : Lst stc w u m) :
    Calls Try.prog 32 #[v, u] w fun e w' => e = .returned (.bool (eqL stEq l m)) ∧ Below w.heap.size w w' := by
  have HH := Lib.hid ht
  have HH' := Lib.hid hu
  obtain ⟨b, c, rfl⟩ := ht.slice
  obtain ⟨b', c', rfl⟩ := hu.slice
  clear ht hu
  by_cases hne : l.length ≠ m.length
  · have hr := eqL_len (q := stEq) l m hne
    have hneb : ((l.length : Int) == (m.length : Int)) = false := by rw [beq_eq_false_iff_ne]; omega
    rw [hr]
    clear hr hne
    go_enter Try.func32, Try.ntmps32
    go_wp2
    go_ret
    exact ⟨rfl, Below.refl _ _⟩
  · have hlm : m.length = l.length := by omega
    rw [hlm]
    have HLM := Lib.hid hlm
    clear hlm hne
    go_enter Try.func32, Try.ntmps32
    go_wp2
    go_loopw [5] (fun i wr => ∃ k : Nat, k ≤ l.length ∧ i = .int .i64 (k : Int) ∧ Below w.heap.size w wr ∧ Hid (∀ j x y, j < k → l[j]? = some x → m[j]? = some y → stEq x y = true)) (fun i _ => l.length - (intOf i).toNat)
    case atStart => exact ⟨0, by omega, rfl, Below.refl _ _, Lib.hid fun j x y h => absurd h (by omega)⟩
    case round =>
      obtain ⟨k, hk, rfl, hB, hall⟩ := hrel
      have HB := Lib.hid hB
      by_cases hlt : k < l.length
      · have hlt' : (k : Int) < (l.length : Int) := by omega
        obtain ⟨g, o, cc, x, hx, hv, hg, hc⟩ := HH.out.at_ stc_len hlt
        obtain ⟨g', o', cc', y, hy, hv', hg', hc'⟩ := HH'.out.at_ (k := k) stc_len (by rw [HLM.out]; exact hlt)
        injection hv with hb _ hcc
        subst hb hcc
        injection hv' with hb _ hcc
        subst hb hcc
        have c0 := (hB.cell (p := ⟨g, o + k * 1 + 0, none⟩) hg).trans (hc 0 (by omega))
        have d0 := (hB.cell (p := ⟨g', o' + k * 1 + 0, none⟩) hg').trans (hc' 0 (by omega))
        simp [stc] at c0 d0
        have HX1 := Lib.hid hx
        have HY1 := Lib.hid hy
        clear hc hc' hB hx hy
        cases hxy : stEq x y
        · have hr := eqL_no l m k x y HX1.out HY1.out hxy
          have HR := Lib.hid hr
          unfold stEq at hxy; have hxn : (x.toList != y.toList) = !(x.toList == y.toList) := rfl; rw [hxy] at hxn; simp only [Bool.not_false] at hxn; have hxy' := hxy
          clear hr hxy
          go_wp2_with fail
          go_quiet (fail)
          go_wp2
          go_ret
          rw [HR.out]
          exact ⟨rfl, below_drewN HB.out _⟩
        · have hn : ∀ j a b, j < k + 1 → l[j]? = some a → m[j]? = some b → stEq a b = true := by
            intro j a b hj h1 h2
            by_cases hjk : j < k
            · exact hall.out j a b hjk h1 h2
            · have : j = k := by omega
              subst this
              rw [HX1.out] at h1
              rw [HY1.out] at h2
              rw [← Option.some.inj h1, ← Option.some.inj h2]
              exact hxy
          have HN := Lib.hid hn
          unfold stEq at hxy; have hxn : (x.toList != y.toList) = !(x.toList == y.toList) := rfl; rw [hxy] at hxn; simp only [Bool.not_true] at hxn; have hxy' := hxy
          clear hn hxy
          go_wp2_with fail
          go_quiet (fail)
          go_wp2
          refine ⟨⟨k + 1, by omega, by go_num, below_drewN HB.out _, HN⟩, ?_⟩
          simp [intOf]; omega
      · have hge : (l.length : Int) ≤ (k : Int) := by omega
        have hr := eqL_all (q := stEq) l m HLM.out.symm (fun j x y h1 h2 => hall.out j x y (by have := (List.getElem?_eq_some_iff.1 h1).1; omega) h1 h2)
        have HR := Lib.hid hr
        clear hr hB
        go_wp2
        go_ret
        rw [HR.out]
        exact ⟨rfl, HB.out⟩


set_option maxHeartbeats 1000000 in
theorem equal_any (l m : List ByteArray) (v u : Value) (w : World) (hl : l.length ≤ 100000) (_ : m.length ≤ 100000) (ht : Lst stc w v l) (hu : Lst stc w u m) :
    Calls Try.prog 67 #[v, u] w fun e w' => e = .returned (.bool (eqL stEq l m)) ∧ Below w.heap.size w w' := by
  have HH := Lib.hid ht
  have HH' := Lib.hid hu
  obtain ⟨b, c, rfl⟩ := ht.slice
  obtain ⟨b', c', rfl⟩ := hu.slice
  clear ht hu
  by_cases hne : l.length ≠ m.length
  · have hr := eqL_len (q := stEq) l m hne
    have hneb : ((l.length : Int) == (m.length : Int)) = false := by rw [beq_eq_false_iff_ne]; omega
    rw [hr]
    clear hr hne
    go_enter Try.func67, Try.ntmps67
    go_wp2
    go_ret
    exact ⟨rfl, Below.refl _ _⟩
  · have hlm : m.length = l.length := by omega
    rw [hlm]
    have HLM := Lib.hid hlm
    clear hlm hne
    go_enter Try.func67, Try.ntmps67
    go_wp2
    go_loopw [13] (fun i wr => ∃ k : Nat, k ≤ l.length ∧ i = .int .i64 (k : Int) ∧ Below w.heap.size w wr ∧ Hid (∀ j x y, j < k → l[j]? = some x → m[j]? = some y → stEq x y = true)) (fun i _ => l.length - (intOf i).toNat)
    case atStart => exact ⟨0, by omega, rfl, Below.refl _ _, Lib.hid fun j x y h => absurd h (by omega)⟩
    case round =>
      obtain ⟨k, hk, rfl, hB, hall⟩ := hrel
      have HB := Lib.hid hB
      by_cases hlt : k < l.length
      · have hlt' : (k : Int) < (l.length : Int) := by omega
        obtain ⟨g, o, cc, x, hx, hv, hg, hc⟩ := HH.out.at_ stc_len hlt
        obtain ⟨g', o', cc', y, hy, hv', hg', hc'⟩ := HH'.out.at_ (k := k) stc_len (by rw [HLM.out]; exact hlt)
        injection hv with hb _ hcc
        subst hb hcc
        injection hv' with hb _ hcc
        subst hb hcc
        have c0 := (hB.cell (p := ⟨g, o + k * 1 + 0, none⟩) hg).trans (hc 0 (by omega))
        have d0 := (hB.cell (p := ⟨g', o' + k * 1 + 0, none⟩) hg').trans (hc' 0 (by omega))
        simp [stc] at c0 d0
        have HX1 := Lib.hid hx
        have HY1 := Lib.hid hy
        clear hc hc' hB hx hy
        cases hxy : stEq x y
        · have hr := eqL_no l m k x y HX1.out HY1.out hxy
          have HR := Lib.hid hr
          unfold stEq at hxy; have hxn : (x.toList != y.toList) = !(x.toList == y.toList) := rfl; rw [hxy] at hxn; simp only [Bool.not_false] at hxn; have hxy' := hxy
          clear hr hxy
          go_wp2_with fail
          go_quiet (fail)
          go_wp2
          go_ret
          rw [HR.out]
          exact ⟨rfl, below_drewN HB.out _⟩
        · have hn : ∀ j a b, j < k + 1 → l[j]? = some a → m[j]? = some b → stEq a b = true := by
            intro j a b hj h1 h2
            by_cases hjk : j < k
            · exact hall.out j a b hjk h1 h2
            · have : j = k := by omega
              subst this
              rw [HX1.out] at h1
              rw [HY1.out] at h2
              rw [← Option.some.inj h1, ← Option.some.inj h2]
              exact hxy
          have HN := Lib.hid hn
          unfold stEq at hxy; have hxn : (x.toList != y.toList) = !(x.toList == y.toList) := rfl; rw [hxy] at hxn; simp only [Bool.not_true] at hxn; have hxy' := hxy
          clear hn hxy
          go_wp2_with fail
          go_quiet (fail)
          go_wp2
          refine ⟨⟨k + 1, by omega, by go_num, below_drewN HB.out _, HN⟩, ?_⟩
          simp [intOf]; omega
      · have hge : (l.length : Int) ≤ (k : Int) := by omega
        have hr := eqL_all (q := stEq) l m HLM.out.symm (fun j x y h1 h2 => hall.out j x y (by have := (List.getElem?_eq_some_iff.1 h1).1; omega) h1 h2)
        have HR := Lib.hid hr
        clear hr hB
        go_wp2
        go_ret
        rw [HR.out]
        exact ⟨rfl, HB.out⟩



/-- a table by value -/
def tv (v u : Value) : Value := .agg #[v, u]
theorem of_any (v u : Value) (w : World) (hv : ∃ b n c, v = .slice b n c) (hu : ∃ b n c, u = .slice b n c) :
    Calls Try.prog 17 #[.agg #[v, u]] w fun e w' => e = .returned (.agg #[v, u]) ∧ Below w.heap.size w w' := by
  obtain ⟨b, n, c, rfl⟩ := hv
  obtain ⟨b', n', c', rfl⟩ := hu
  have K1 := Lib.hid (Blk.new (w.alloc (.cells #[.slice b n c, .slice b' n' c'] 24)) #[.slice b n c, .slice b' n' c'] 29)
  go_enter Try.func17, Try.ntmps17
  go_wp2
  have k1 := K1.out
  rw [World.size_alloc] at k1
  refine bodyPost_ret (results_cell_row rfl _ _ (w.heap.size + 1) 29 #[.slice b n c, .slice b' n' c'] (0, 0) _ rfl k1 Try.underlying29 rfl (by kernel_rfl)) rfl ?_
  exact ⟨rfl, ((Below.refl w.heap.size w).alloc (Nat.le_refl _) _).alloc (by simp) _⟩
set_option maxHeartbeats 1000000 in
theorem fewT_any (l m : List ByteArray) (v u : Value) (w : World) (hv : Lst stc w v l) (hu : Lst stc w u m) :
    Calls Try.prog 15 #[.agg #[v, u]] w fun e w' => e = .returned (.bool (fewB l 210 && fewB m 210)) ∧ Below w.heap.size w w' := by
  have HB := Lib.hid ((Below.refl w.heap.size w).alloc (Nat.le_refl _) (.cells #[v, u] 24))
  have V1 := Lib.hid (hv.below HB.out)
  have U1 := Lib.hid (hu.below HB.out)
  obtain ⟨b, c, rfl⟩ := hv.slice
  obtain ⟨b', c', rfl⟩ := hu.slice
  obtain ⟨q, hq⟩ : ∃ q, fewB l 210 = q := ⟨_, rfl⟩
  obtain ⟨q', hq'⟩ : ∃ q, fewB m 210 = q := ⟨_, rfl⟩
  rw [hq, hq']
  have HQ := Lib.hid hq
  have HQ' := Lib.hid hq'
  clear hv hu hq hq'
  cases q <;>
  · go_enter Try.func15, Try.ntmps15
    go_wp2_with fail
    refine (few_any l _ 210 _ (by decide) V1.out).mono ?_
    rw [HQ.out]
    rintro e w' ⟨rfl, rfl⟩
    go_wp2_with fail
    refine (few_any m _ 210 _ (by decide) U1.out).mono ?_
    rw [HQ'.out]
    rintro e w' ⟨rfl, rfl⟩
    go_wp2
    go_ret
    exact ⟨rfl, HB.out⟩
end Go.Proofs.Ytadodccciejghaa
