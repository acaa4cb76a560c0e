/- Are two lists of tokens alike: the loop. -/
import Derived.Test.YtfljnhmpelpdaaaSame
import Derived.BigQuiet
namespace Go.Proofs.Ytfljnhmpelpdaaa
open Go.RowKit

def sameL : List Tk → List Tk → Bool
  | [], [] => true
  | x :: l, y :: m => tkEq x y && sameL l m
  | _, _ => false
theorem sameL_len : ∀ (l m : List Tk), l.length ≠ m.length → sameL l m = false
  | [], [], h => absurd rfl h
  | x :: l, y :: m, h => by rw [sameL, sameL_len l m (by simpa using h), Bool.and_false]
  | [], _ :: _, _ => rfl
  | _ :: _, [], _ => rfl
theorem sameL_all : ∀ (l m : List Tk), l.length = m.length → (∀ (j : Nat) (x y : Tk), l[j]? = some x → m[j]? = some y → tkEq x y = true) → sameL l m = true
  | [], [], _, _ => rfl
  | x :: l, y :: m, h, ha => by
    rw [sameL, ha 0 x y rfl rfl, sameL_all l m (by simpa using h) (fun j a b h1 h2 => ha (j + 1) a b (by simpa using h1) (by simpa using h2))]
    rfl
  | [], _ :: _, h, _ => by simp at h
  | _ :: _, [], h, _ => by simp at h
theorem sameL_no : ∀ (l m : List Tk) (j : Nat) (x y : Tk), l[j]? = some x → m[j]? = some y → tkEq x y = false → sameL l m = false
  | x :: l, y :: m, 0, a, b, h1, h2, h => by
    simp only [List.getElem?_cons_zero, Option.some.injEq] at h1 h2
    subst h1 h2
    rw [sameL, h, Bool.false_and]
  | x :: l, y :: m, j + 1, a, b, h1, h2, h => by
    rw [sameL, sameL_no l m j a b (by simpa using h1) (by simpa using h2) h, Bool.and_false]
  | [], _, j, a, b, h1, _, _ => by simp at h1
  | _ :: _, [], j, a, b, _, h2, _ => by simp at h2

set_option maxRecDepth 100000 in
set_option maxHeartbeats 1000000 in
theorem equal_any (l m : List Tk) (v u : Value) (w : World) (hl : l.length ≤ 100000) (_hm : m.length ≤ 100000) (ht : Toks w v l) (hu : Toks w u m) :
    Calls Try.prog 26 #[v, u] w fun e w' => e = .returned (.bool (sameL l m)) ∧ Below w.heap.size w w' := by
  obtain ⟨b, o, c, rfl, hh⟩ := ht
  obtain ⟨b', o', c', rfl, hh'⟩ := hu
  have HH := Lib.hid hh
  have HH' := Lib.hid hh'
  clear hh hh'
  by_cases hne : l.length ≠ m.length
  · have hr := sameL_len l m hne
    have hneb : ((l.length : Int) == (m.length : Int)) = false := by rw [beq_eq_false_iff_ne]; omega
    rw [hr]
    clear hr hne
    go_enter Try.func26, Try.ntmps26
    go_wp2
    go_ret
    exact ⟨rfl, Below.refl _ _⟩
  · have hlm : m.length = l.length := by omega
    rw [hlm]
    have HLM := Lib.hid hlm
    clear hlm hne
    go_enter Try.func26, Try.ntmps26
    go_wp2
    go_loopw [13] (fun i wr => ∃ k : Nat, k ≤ l.length ∧ i = .int .i64 (k : Int) ∧ Below w.heap.size w wr ∧ Hid (∀ j x y, j < k → l[j]? = some x → m[j]? = some y → tkEq x y = true)) (fun i _ => l.length - (intOf i).toNat)
    case atStart => exact ⟨0, by omega, rfl, Below.refl _ _, Lib.hid fun j x y h => absurd h (by omega)⟩
    case round =>
      obtain ⟨k, hk, rfl, hB, hall⟩ := hrel
      have HB := Lib.hid hB
      by_cases hlt : k < l.length
      · have hlt' : (k : Int) < (l.length : Int) := by omega
        have hml := HLM.out
        obtain ⟨x, hx⟩ : ∃ x, l[k]? = some x := ⟨l[k], List.getElem?_eq_getElem hlt⟩
        obtain ⟨y, hy⟩ : ∃ y, m[k]? = some y := ⟨m[k]'(by omega), List.getElem?_eq_getElem (by omega)⟩
        obtain ⟨g, rfl, hg, hc⟩ := HH.out (fun e => by rw [e] at hlt; simp at hlt)
        obtain ⟨g', rfl, hg', hc'⟩ := HH'.out (fun e => by rw [e] at hml; simp at hml; omega)
        obtain ⟨h0, h1, h2⟩ := cs_at l k x hx
        obtain ⟨h0', h1', h2'⟩ := cs_at m k y hy
        have c0 := (hB.cell (p := ⟨g, o + k * 3, none⟩) hg).trans (hc _ _ h0)
        have c1 := (hB.cell (p := ⟨g, o + (k * 3 + 1), none⟩) hg).trans (hc _ _ h1)
        have c2 := (hB.cell (p := ⟨g, o + (k * 3 + 2), none⟩) hg).trans (hc _ _ h2)
        have d0 := (hB.cell (p := ⟨g', o' + k * 3, none⟩) hg').trans (hc' _ _ h0')
        have d1 := (hB.cell (p := ⟨g', o' + (k * 3 + 1), none⟩) hg').trans (hc' _ _ h1')
        have d2 := (hB.cell (p := ⟨g', o' + (k * 3 + 2), none⟩) hg').trans (hc' _ _ h2')
        rw [← Nat.add_assoc] at c1 c2 d1 d2
        have hneq := neq42 x y
        have HX1 := Lib.hid hx
        have HY1 := Lib.hid hy
        have hg42 := guard42
        clear h0 h1 h2 h0' h1' h2' hc hc' hml hB hx hy
        cases hxy : tkEq x y
        · have hr := sameL_no l m k x y HX1.out HY1.out hxy
          have HR := Lib.hid hr
          rw [hxy] at hneq
          clear hr hxy
          go_wp2_with fail
          go_quiet (fail)
          go_wp2
          go_ret
          rw [HR.out]
          exact ⟨rfl, below_drewN HB.out _⟩
        · have hn : ∀ j a b, j < k + 1 → l[j]? = some a → m[j]? = some b → tkEq a b = true := by
            intro j a b hj h1 h2
            by_cases hjk : j < k
            · exact hall.out j a b hjk h1 h2
            · have : j = k := by omega
              subst this
              rw [HX1.out] at h1
              rw [HY1.out] at h2
              rw [← Option.some.inj h1, ← Option.some.inj h2]
              exact hxy
          have HN := Lib.hid hn
          rw [hxy] at hneq
          clear hn hxy
          go_wp2_with fail
          go_quiet (fail)
          go_wp2
          refine ⟨⟨k + 1, by omega, by go_num, below_drewN HB.out _, HN⟩, ?_⟩
          simp [intOf]; omega
      · have hge : (l.length : Int) ≤ (k : Int) := by omega
        have hr := sameL_all l m HLM.out.symm (fun j x y h1 h2 => hall.out j x y (by have := (List.getElem?_eq_some_iff.1 h1).1; omega) h1 h2)
        have HR := Lib.hid hr
        clear hr hB
        go_wp2
        go_ret
        rw [HR.out]
        exact ⟨rfl, HB.out⟩

theorem same_any (l m : List Tk) (v u : Value) (w : World) (hl : l.length ≤ 100000) (hm : m.length ≤ 100000) (ht : Toks w v l) (hu : Toks w u m) :
    Calls Try.prog 15 #[v, u] w fun e w' => e = .returned (.bool (sameL l m)) ∧ Below w.heap.size w w' := by
  have HE := Lib.hid (equal_any l m v u w hl hm ht hu)
  obtain ⟨b, o, c, rfl, _⟩ := ht
  obtain ⟨b', o', c', rfl, _⟩ := hu
  go_enter Try.func15, Try.ntmps15
  go_wp2_with fail
  refine HE.out.mono ?_
  rintro e w' ⟨rfl, hb⟩
  go_wp2
  go_ret
  exact ⟨rfl, hb⟩
end Go.Proofs.Ytfljnhmpelpdaaa
