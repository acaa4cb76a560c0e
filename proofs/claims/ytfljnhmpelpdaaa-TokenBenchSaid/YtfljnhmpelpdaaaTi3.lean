/- Are two lists alike: the loops. -/
import Derived.Test.YtfljnhmpelpdaaaTi2
namespace Go.Proofs.Ytfljnhmpelpdaaa
open Go.RowKit

set_option maxRecDepth 100000 in
set_option maxHeartbeats 1000000 in
theorem textsEq_any (l m : List ByteArray) (v u : Value) (w : World) (hl : l.length ≤ 100000) (hm : m.length ≤ 100000) (ht : Lst stc w v l) (hu : Lst stc w u m) :
    Calls Try.prog 12 #[v, u] w fun e w' => e = .returned (.bool (eqL stEq l m)) ∧ Below w.heap.size w w' := by
  have HH := Lib.hid ht
  have HH' := Lib.hid hu
  obtain ⟨b, c, rfl⟩ := ht.slice
  obtain ⟨b', c', rfl⟩ := hu.slice
  clear ht hu
  by_cases hne : l.length ≠ m.length
  · have hr := eqL_len (q := stEq) l m hne
    have hneb : ((l.length : Int) == (m.length : Int)) = false := by rw [beq_eq_false_iff_ne]; omega
    rw [hr]
    clear hr hne
    go_enter Try.func12, Try.ntmps12
    go_wp2
    go_ret
    exact ⟨rfl, Below.refl _ _⟩
  · have hlm : m.length = l.length := by omega
    rw [hlm]
    have HLM := Lib.hid hlm
    clear hlm hne
    go_enter Try.func12, Try.ntmps12
    go_wp2
    go_loopw [5] (fun i wr => ∃ k : Nat, k ≤ l.length ∧ i = .int .i64 (k : Int) ∧ Below w.heap.size w wr ∧ Hid (∀ j x y, j < k → l[j]? = some x → m[j]? = some y → stEq x y = true)) (fun i _ => l.length - (intOf i).toNat)
    case atStart => exact ⟨0, by omega, rfl, Below.refl _ _, Lib.hid fun j x y h => absurd h (by omega)⟩
    case round =>
      obtain ⟨k, hk, rfl, hB, hall⟩ := hrel
      have HB := Lib.hid hB
      by_cases hlt : k < l.length
      · have hlt' : (k : Int) < (l.length : Int) := by omega
        obtain ⟨g, o, cc, x, hx, hv, hg, hc⟩ := HH.out.at_ stc_len hlt
        obtain ⟨g', o', cc', y, hy, hv', hg', hc'⟩ := HH'.out.at_ (k := k) stc_len (by rw [HLM.out]; exact hlt)
        injection hv with hb _ hcc
        subst hb hcc
        injection hv' with hb _ hcc
        subst hb hcc
        have c0 := (hB.cell (p := ⟨g, o + k * 1 + 0, none⟩) hg).trans (hc 0 (by omega))
        have d0 := (hB.cell (p := ⟨g', o' + k * 1 + 0, none⟩) hg').trans (hc' 0 (by omega))
        simp [stc] at c0 d0
        have HX1 := Lib.hid hx
        have HY1 := Lib.hid hy
        clear hc hc' hB hx hy
        cases hxy : stEq x y
        · have hr := eqL_no l m k x y HX1.out HY1.out hxy
          have HR := Lib.hid hr
          unfold stEq at hxy; have hxn : (x.toList != y.toList) = !(x.toList == y.toList) := rfl; rw [hxy] at hxn; simp only [Bool.not_true, Bool.not_false] at hxn; have hxy' := hxy
          clear hr hxy
          go_wp2_with fail
          go_quiet (fail)
          go_wp2
          go_ret
          rw [HR.out]
          exact ⟨rfl, below_drewN HB.out _⟩
        · have hn : ∀ j a b, j < k + 1 → l[j]? = some a → m[j]? = some b → stEq a b = true := by
            intro j a b hj h1 h2
            by_cases hjk : j < k
            · exact hall.out j a b hjk h1 h2
            · have : j = k := by omega
              subst this
              rw [HX1.out] at h1
              rw [HY1.out] at h2
              rw [← Option.some.inj h1, ← Option.some.inj h2]
              exact hxy
          have HN := Lib.hid hn
          unfold stEq at hxy; have hxn : (x.toList != y.toList) = !(x.toList == y.toList) := rfl; rw [hxy] at hxn; simp only [Bool.not_true, Bool.not_false] at hxn; have hxy' := hxy
          clear hn hxy
          go_wp2_with fail
          go_quiet (fail)
          go_wp2
          refine ⟨⟨k + 1, by omega, by go_num, below_drewN HB.out _, HN⟩, ?_⟩
          simp [intOf]; omega
      · have hge : (l.length : Int) ≤ (k : Int) := by omega
        have hr := eqL_all (q := stEq) l m HLM.out.symm (fun j x y h1 h2 => hall.out j x y (by have := (List.getElem?_eq_some_iff.1 h1).1; omega) h1 h2)
        have HR := Lib.hid hr
        clear hr hB
        go_wp2
        go_ret
        rw [HR.out]
        exact ⟨rfl, HB.out⟩

set_option maxRecDepth 100000 in
set_option maxHeartbeats 1000000 in
theorem refSame_any (l m : List Ti) (v u : Value) (w : World) (hl : l.length ≤ 100000) (hm : m.length ≤ 100000) (ht : Lst tic w v l) (hu : Lst tic w u m) :
    Calls Try.prog 10 #[v, u] w fun e w' => e = .returned (.bool (eqL tiEq l m)) ∧ Below w.heap.size w w' := by
  have HH := Lib.hid ht
  have HH' := Lib.hid hu
  obtain ⟨b, c, rfl⟩ := ht.slice
  obtain ⟨b', c', rfl⟩ := hu.slice
  clear ht hu
  by_cases hne : l.length ≠ m.length
  · have hr := eqL_len (q := tiEq) l m hne
    have hneb : ((l.length : Int) == (m.length : Int)) = false := by rw [beq_eq_false_iff_ne]; omega
    rw [hr]
    clear hr hne
    go_enter Try.func10, Try.ntmps10
    go_wp2
    go_ret
    exact ⟨rfl, Below.refl _ _⟩
  · have hlm : m.length = l.length := by omega
    rw [hlm]
    have HLM := Lib.hid hlm
    clear hlm hne
    go_enter Try.func10, Try.ntmps10
    go_wp2
    go_loopw [5] (fun i wr => ∃ k : Nat, k ≤ l.length ∧ i = .int .i64 (k : Int) ∧ Below w.heap.size w wr ∧ Hid (∀ j x y, j < k → l[j]? = some x → m[j]? = some y → tiEq x y = true)) (fun i _ => l.length - (intOf i).toNat)
    case atStart => exact ⟨0, by omega, rfl, Below.refl _ _, Lib.hid fun j x y h => absurd h (by omega)⟩
    case round =>
      obtain ⟨k, hk, rfl, hB, hall⟩ := hrel
      have HB := Lib.hid hB
      by_cases hlt : k < l.length
      · have hlt' : (k : Int) < (l.length : Int) := by omega
        obtain ⟨g, o, cc, x, hx, hv, hg, hc⟩ := HH.out.at_ tic_len hlt
        obtain ⟨g', o', cc', y, hy, hv', hg', hc'⟩ := HH'.out.at_ (k := k) tic_len (by rw [HLM.out]; exact hlt)
        injection hv with hb _ hcc
        subst hb hcc
        injection hv' with hb _ hcc
        subst hb hcc
        have c0 := (hB.cell (p := ⟨g, o + k * 3 + 0, none⟩) hg).trans (hc 0 (by omega))
        have d0 := (hB.cell (p := ⟨g', o' + k * 3 + 0, none⟩) hg').trans (hc' 0 (by omega))
        have c1 := (hB.cell (p := ⟨g, o + k * 3 + 1, none⟩) hg).trans (hc 1 (by omega))
        have d1 := (hB.cell (p := ⟨g', o' + k * 3 + 1, none⟩) hg').trans (hc' 1 (by omega))
        have c2 := (hB.cell (p := ⟨g, o + k * 3 + 2, none⟩) hg).trans (hc 2 (by omega))
        have d2 := (hB.cell (p := ⟨g', o' + k * 3 + 2, none⟩) hg').trans (hc' 2 (by omega))
        simp [tic] at c0 d0 c1 d1 c2 d2
        have HX1 := Lib.hid hx
        have HY1 := Lib.hid hy
        clear hc hc' hB hx hy
        cases hxy : tiEq x y
        · have hr := eqL_no l m k x y HX1.out HY1.out hxy
          have HR := Lib.hid hr
          have hneq := neqI51 x y; rw [hxy] at hneq; have hg := guard51
          clear hr hxy
          go_wp2_with fail
          go_quiet (fail)
          go_wp2
          go_ret
          rw [HR.out]
          exact ⟨rfl, below_drewN HB.out _⟩
        · have hn : ∀ j a b, j < k + 1 → l[j]? = some a → m[j]? = some b → tiEq a b = true := by
            intro j a b hj h1 h2
            by_cases hjk : j < k
            · exact hall.out j a b hjk h1 h2
            · have : j = k := by omega
              subst this
              rw [HX1.out] at h1
              rw [HY1.out] at h2
              rw [← Option.some.inj h1, ← Option.some.inj h2]
              exact hxy
          have HN := Lib.hid hn
          have hneq := neqI51 x y; rw [hxy] at hneq; have hg := guard51
          clear hn hxy
          go_wp2_with fail
          go_quiet (fail)
          go_wp2
          refine ⟨⟨k + 1, by omega, by go_num, below_drewN HB.out _, HN⟩, ?_⟩
          simp [intOf]; omega
      · have hge : (l.length : Int) ≤ (k : Int) := by omega
        have hr := eqL_all (q := tiEq) l m HLM.out.symm (fun j x y h1 h2 => hall.out j x y (by have := (List.getElem?_eq_some_iff.1 h1).1; omega) h1 h2)
        have HR := Lib.hid hr
        clear hr hB
        go_wp2
        go_ret
        rw [HR.out]
        exact ⟨rfl, HB.out⟩

set_option maxRecDepth 100000 in
set_option maxHeartbeats 1000000 in
theorem equalI_any (l m : List Ti) (v u : Value) (w : World) (hl : l.length ≤ 100000) (hm : m.length ≤ 100000) (ht : Lst tic w v l) (hu : Lst tic w u m) :
    Calls Try.prog 26 #[v, u] w fun e w' => e = .returned (.bool (eqL tiEq l m)) ∧ Below w.heap.size w w' := by
  have HH := Lib.hid ht
  have HH' := Lib.hid hu
  obtain ⟨b, c, rfl⟩ := ht.slice
  obtain ⟨b', c', rfl⟩ := hu.slice
  clear ht hu
  by_cases hne : l.length ≠ m.length
  · have hr := eqL_len (q := tiEq) l m hne
    have hneb : ((l.length : Int) == (m.length : Int)) = false := by rw [beq_eq_false_iff_ne]; omega
    rw [hr]
    clear hr hne
    go_enter Try.func26, Try.ntmps26
    go_wp2
    go_ret
    exact ⟨rfl, Below.refl _ _⟩
  · have hlm : m.length = l.length := by omega
    rw [hlm]
    have HLM := Lib.hid hlm
    clear hlm hne
    go_enter Try.func26, Try.ntmps26
    go_wp2
    go_loopw [13] (fun i wr => ∃ k : Nat, k ≤ l.length ∧ i = .int .i64 (k : Int) ∧ Below w.heap.size w wr ∧ Hid (∀ j x y, j < k → l[j]? = some x → m[j]? = some y → tiEq x y = true)) (fun i _ => l.length - (intOf i).toNat)
    case atStart => exact ⟨0, by omega, rfl, Below.refl _ _, Lib.hid fun j x y h => absurd h (by omega)⟩
    case round =>
      obtain ⟨k, hk, rfl, hB, hall⟩ := hrel
      have HB := Lib.hid hB
      by_cases hlt : k < l.length
      · have hlt' : (k : Int) < (l.length : Int) := by omega
        obtain ⟨g, o, cc, x, hx, hv, hg, hc⟩ := HH.out.at_ tic_len hlt
        obtain ⟨g', o', cc', y, hy, hv', hg', hc'⟩ := HH'.out.at_ (k := k) tic_len (by rw [HLM.out]; exact hlt)
        injection hv with hb _ hcc
        subst hb hcc
        injection hv' with hb _ hcc
        subst hb hcc
        have c0 := (hB.cell (p := ⟨g, o + k * 3 + 0, none⟩) hg).trans (hc 0 (by omega))
        have d0 := (hB.cell (p := ⟨g', o' + k * 3 + 0, none⟩) hg').trans (hc' 0 (by omega))
        have c1 := (hB.cell (p := ⟨g, o + k * 3 + 1, none⟩) hg).trans (hc 1 (by omega))
        have d1 := (hB.cell (p := ⟨g', o' + k * 3 + 1, none⟩) hg').trans (hc' 1 (by omega))
        have c2 := (hB.cell (p := ⟨g, o + k * 3 + 2, none⟩) hg).trans (hc 2 (by omega))
        have d2 := (hB.cell (p := ⟨g', o' + k * 3 + 2, none⟩) hg').trans (hc' 2 (by omega))
        simp [tic] at c0 d0 c1 d1 c2 d2
        have HX1 := Lib.hid hx
        have HY1 := Lib.hid hy
        clear hc hc' hB hx hy
        cases hxy : tiEq x y
        · have hr := eqL_no l m k x y HX1.out HY1.out hxy
          have HR := Lib.hid hr
          have hneq := neqI42 x y; rw [hxy] at hneq; have hg := guard42
          clear hr hxy
          go_wp2_with fail
          go_quiet (fail)
          go_wp2
          go_ret
          rw [HR.out]
          exact ⟨rfl, below_drewN HB.out _⟩
        · have hn : ∀ j a b, j < k + 1 → l[j]? = some a → m[j]? = some b → tiEq a b = true := by
            intro j a b hj h1 h2
            by_cases hjk : j < k
            · exact hall.out j a b hjk h1 h2
            · have : j = k := by omega
              subst this
              rw [HX1.out] at h1
              rw [HY1.out] at h2
              rw [← Option.some.inj h1, ← Option.some.inj h2]
              exact hxy
          have HN := Lib.hid hn
          have hneq := neqI42 x y; rw [hxy] at hneq; have hg := guard42
          clear hn hxy
          go_wp2_with fail
          go_quiet (fail)
          go_wp2
          refine ⟨⟨k + 1, by omega, by go_num, below_drewN HB.out _, HN⟩, ?_⟩
          simp [intOf]; omega
      · have hge : (l.length : Int) ≤ (k : Int) := by omega
        have hr := eqL_all (q := tiEq) l m HLM.out.symm (fun j x y h1 h2 => hall.out j x y (by have := (List.getElem?_eq_some_iff.1 h1).1; omega) h1 h2)
        have HR := Lib.hid hr
        clear hr hB
        go_wp2
        go_ret
        rw [HR.out]
        exact ⟨rfl, HB.out⟩

theorem sameI_any (l m : List Ti) (v u : Value) (w : World) (hl : l.length ≤ 100000) (hm : m.length ≤ 100000) (ht : Lst tic w v l) (hu : Lst tic w u m) :
    Calls Try.prog 15 #[v, u] w fun e w' => e = .returned (.bool (eqL tiEq l m)) ∧ Below w.heap.size w w' := by
  have HE := Lib.hid (equalI_any l m v u w hl hm ht hu)
  obtain ⟨b, c, rfl⟩ := ht.slice
  obtain ⟨b', c', rfl⟩ := hu.slice
  clear ht hu
  go_enter Try.func15, Try.ntmps15
  go_wp2_with fail
  refine HE.out.mono ?_
  rintro e w' ⟨rfl, hb⟩
  go_wp2
  go_ret
  exact ⟨rfl, hb⟩
end Go.Proofs.Ytfljnhmpelpdaaa
