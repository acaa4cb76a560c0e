/- Texts, of two rows that are the same. -/
import Derived.Test.YtkemaaohmfdhbaaTexts
import Derived.WalkSmall
namespace Go.Proofs.Ytkemaaohmfdhbaa
open Go.RowKit

/-- a slice at g that reads as these texts -/
def Row (w : World) (g : Nat) (xs : List ByteArray) : Prop := g < w.heap.size ∧ ∀ j, (h : j < xs.length) → w.cell? ⟨g, j, none⟩ = some (.string xs[j])

set_option maxHeartbeats 1000000 in
theorem texts_same (g h : Nat) (xs : List ByteArray) (c d : Nat) (w : World) (hlen : xs.length ≤ 9223372036854775807) (hg : Row w g xs) (hh : Row w h xs) :
    Calls Try.prog 17 #[.slice (some ⟨g, 0, none⟩) xs.length c, .slice (some ⟨h, 0, none⟩) xs.length d] w fun e w' => e = .returned (.bool true) ∧ Below w.heap.size w w' := by
  go_enter Try.func17, Try.ntmps17
  go_wp2
  go_loopw [5] (fun i wr => ∃ k : Nat, k ≤ xs.length ∧ i = .int .i64 k ∧ Below w.heap.size w wr) (fun i _ => xs.length - (intOf i).toNat)
  case atStart => exact ⟨0, Nat.zero_le _, rfl, Below.refl _ _⟩
  case round =>
    obtain ⟨k, hk, rfl, hB⟩ := hrel
    by_cases hlt : k < xs.length
    · have c1 : wr.cell? ⟨g, k, none⟩ = some (.string xs[k]) := (hB.cell (p := ⟨g, k, none⟩) hg.1).trans (hg.2 k hlt)
      have c2 : wr.cell? ⟨h, k, none⟩ = some (.string xs[k]) := (hB.cell (p := ⟨h, k, none⟩) hh.1).trans (hh.2 k hlt)
      go_wp2
      go_quiet (fail)
      go_wp2
      go_roundw
      case rel => exact ⟨k + 1, by omega, by go_num, below_drewN hB nq⟩
      case measure => simp [intOf]; omega
    · go_wp2
      go_ret
      exact ⟨rfl, hB⟩

/-- lines, with a byte 10 between them -/
def jn : List (List UInt8) → List UInt8
  | [] => []
  | [x] => x
  | x :: y :: r => x ++ 10 :: jn (y :: r)
theorem jn_cons (x : List UInt8) (r : List (List UInt8)) (h : r ≠ []) : jn (x :: r) = x ++ 10 :: jn r := by
  cases r with
  | nil => exact absurd rfl h
  | cons y r => rfl
theorem jn_snoc : ∀ (l : List (List UInt8)) (x : List UInt8), jn (l ++ [x]) = if l = [] then x else jn l ++ 10 :: x
  | [], x => rfl
  | [a], x => by simp [jn]
  | a :: b :: r, x => by
    have := jn_snoc (b :: r) x
    rw [if_neg (by simp)] at this
    rw [List.cons_append, jn_cons a (b :: r ++ [x]) (by simp), this, if_neg (by simp), jn_cons a (b :: r) (by simp)]
    simp
theorem jn_lns : ∀ l : List UInt8, jn (lns l) = l
  | [] => rfl
  | b :: l => by
    have ih := jn_lns l
    simp only [lns]
    by_cases hb : b = 10
    · rw [if_pos hb, jn_cons _ _ (lns_ne l), ih, hb]; rfl
    · rw [if_neg hb]
      obtain ⟨x, xs, hx⟩ : ∃ x xs, lns l = x :: xs := by
        cases h : lns l with
        | nil => exact absurd h (lns_ne _)
        | cons x xs => exact ⟨x, xs, rfl⟩
      rw [hx] at ih ⊢
      simp only
      cases xs with
      | nil => simp [jn] at ih ⊢; exact ih
      | cons y r => rw [jn_cons _ _ (by simp)] at ih ⊢; rw [← ih]; rfl
theorem jn_len (l : List (List UInt8)) : ∀ k, k ≤ l.length → (jn (l.take k)).length ≤ (jn l).length := by
  intro k hk
  induction h : l.length - k generalizing k with
  | zero => rw [List.take_of_length_le (by omega)]; exact Nat.le_refl _
  | succ d ih =>
    have := ih (k + 1) (by omega) (by omega)
    rw [List.take_succ_eq_append_getElem (by omega), jn_snoc] at this
    split at this
    · rename_i h0; rw [h0]; simp [jn]
    · simp at this; omega

theorem row_of {w : World} {b : Nat} {v : Value} {xs : List ByteArray} (hne : xs ≠ []) (hr : w.ownsRow b 9 1 v xs.length (xs.map Value.string)) : ∃ g cap, v = .slice (some ⟨g, 0, none⟩) xs.length cap ∧ Row w g xs := by
  obtain ⟨m, hm⟩ : ∃ m, xs.length = m + 1 := ⟨xs.length - 1, by have := List.length_pos_iff.2 hne; omega⟩
  rw [hm] at hr
  obtain ⟨g, cap, rfl⟩ := ownsRow_succ hr
  refine ⟨g, cap, by rw [hm], (hr.lt g rfl).2, fun j hj => ?_⟩
  have hc := hr.cells (g := g) rfl j (.string xs[j]) (by rw [List.getElem?_map, List.getElem?_eq_getElem hj]; rfl)
  have ha : (⟨g, 0, none⟩ : Addr).add j = ⟨g, j, none⟩ := by cases j <;> simp [Addr.add]
  rwa [ha] at hc
theorem Row.below {w w' : World} {g : Nat} {xs : List ByteArray} (h : Row w g xs) (hb : Below w.heap.size w w') : Row w' g xs :=
  ⟨Nat.lt_of_lt_of_le h.1 hb.size, fun j hj => (hb.cell (p := ⟨g, j, none⟩) h.1).trans (h.2 j hj)⟩

theorem lnsLaw_big (s : ByteArray) (w : World) (hs : 200 < s.size) (hm : s.size ≤ maxLen) :
    Calls Try.prog 4 #[.string s] w fun e w' => e = .returned (.bool true) ∧ Below w.heap.size w w' := by
  unfold maxLen at hm
  go_enter Try.func4, Try.ntmps4
  go_wp2_with fail
  refine (works_any _).mono ?_
  rintro e w1 ⟨rfl, b1⟩
  go_wp2
  go_ret
  exact ⟨rfl, b1⟩

set_option maxHeartbeats 2000000 in
theorem lnsLaw_any (s : ByteArray) (w : World) (hs : s.size ≤ 200) :
    Calls Try.prog 4 #[.string s] w fun e w' => e = .returned (.bool true) ∧ Below w.heap.size w w' := by
  go_enter Try.func4, Try.ntmps4
  go_wp2_with fail
  refine (works_any _).mono ?_
  rintro e w1 ⟨rfl, b1⟩
  go_wp2_with fail
  refine (lines_any s _ (by omega)).mono ?_
  rintro e w2 ⟨v, xs, rfl, hx, hr, b2⟩
  go_wp2_with fail
  refine (refLines_any s _ (by omega)).mono ?_
  rintro e w3 ⟨v', xs', rfl, hx', hr', b3⟩
  have hinj : xs' = xs := by
    have : tx xs' = tx xs := hx'.trans hx.symm
    unfold tx at this
    exact (List.map_inj_right (fun a b h => by cases a; cases b; simp at h; cases h; rfl)).1 this
  subst hinj
  have hne : xs' ≠ [] := by
    rintro rfl
    exact lns_ne _ hx.symm
  obtain ⟨g, c, rfl, hg⟩ := row_of hne hr
  obtain ⟨h, d, rfl, hh⟩ := row_of hne hr'
  have hlen : xs'.length ≤ 201 := by
    have h1 := lns_len s.data.toList
    rw [← hx] at h1
    simp [tx] at h1
    omega
  have hg3 := hg.below b3
  have hgl := hg.1
  have HX := Lib.hid hx
  clear hx hx' hr hr' hne
  go_wp2_with fail
  refine (texts_same g h xs' c d _ (by omega) hg3 hh).mono ?_
  rintro e w4 ⟨rfl, b4⟩
  have hg4 := hg3.below b4
  have hfin : Below w.heap.size w w4 := ((b1.trans (b2.mono b1.size)).trans (b3.mono (Nat.le_trans b1.size b2.size))).trans (b4.mono (Nat.le_trans (Nat.le_trans b1.size b2.size) b3.size))
  have HF := Lib.hid hfin
  clear hfin b1 b2 b3 b4 hg hg3 hh
  have hlt4 := hg4.1
  go_wp2
  go_loop [6, 7] (fun a i => ∃ (k : Nat) (x : ByteArray), k ≤ xs'.length ∧ i = .int .i64 k ∧ a = .string x ∧ x.data.toList = jn ((tx xs').take k)) (fun _ i => xs'.length - (intOf i).toNat)
  case atStart => exact ⟨0, ⟨#[]⟩, Nat.zero_le _, rfl, rfl, by simp [jn]⟩
  case round =>
    obtain ⟨k, x, hk, rfl, rfl, hj⟩ := hrel
    have HJ := Lib.hid hj
    clear hj
    by_cases hlt : k < xs'.length
    · have hc := hg4.2 k hlt
      have hsn : jn ((tx xs').take (k + 1)) = if (tx xs').take k = [] then xs'[k].data.toList else jn ((tx xs').take k) ++ 10 :: xs'[k].data.toList := by
        rw [List.take_succ_eq_append_getElem (by simpa [tx] using hlt), jn_snoc]; simp [tx]
      have HS := Lib.hid hsn
      clear hsn
      by_cases h0 : k = 0
      · subst h0
        have hz0 : x.size + xs'[0].size ≤ 200 := by
          have h1 := jn_len (tx xs') 1 (by simp [tx]; omega)
          have h2 := HS.out
          rw [if_pos (by simp)] at h2
          rw [HX.out, jn_lns] at h1
          have h3 : x.data.toList.length = 0 := by rw [HJ.out]; rfl
          rw [show (0 + 1) = 1 from rfl] at h2
          rw [← HX.out, h2] at h1
          simp only [Array.length_toList, ByteArray.size_data] at h1 h3
          omega
        go_wp2
        go_round
        case rel => exact ⟨1, x ++ xs'[0], by omega, rfl, rfl, by
          rw [HS.out, if_pos (by simp), ByteArray.data_append, Array.toList_append, HJ.out]; simp [jn]⟩
        case measure => simp [intOf]; omega
      · have h0' : (0 : Int) < (k : Int) := by omega
        have hne : ¬ (tx xs').take k = [] := by
          have hl : ((tx xs').take k).length = k := by rw [List.length_take]; simp [tx]; omega
          intro e
          rw [e] at hl
          simp at hl
          omega
        have HNE := Lib.hid hne
        clear hne
        have hz1 : x.size + 1 + xs'[k].size ≤ 200 := by
          have h1 := jn_len (tx xs') (k + 1) (by simp [tx]; omega)
          have h2 := HS.out
          rw [if_neg HNE.out] at h2
          have h3 := congrArg List.length HJ.out
          rw [h2] at h1
          rw [HX.out, jn_lns, ← HX.out] at h1
          simp at h1 h3
          omega
        have hz2 : (x ++ ⟨#[10]⟩).size + xs'[k].size ≤ 200 := by rw [ByteArray.size_append]; exact hz1
        go_wp2
        go_round
        case rel => exact ⟨k + 1, x ++ ⟨#[10]⟩ ++ xs'[k], by omega, by go_num, rfl, by
          rw [HS.out, if_neg HNE.out, ByteArray.data_append, ByteArray.data_append, Array.toList_append, Array.toList_append, HJ.out]; simp⟩
        case measure => simp [intOf]; omega
    · have hfin : x = s := by
        have := HJ.out
        rw [List.take_of_length_le (by simp [tx]; omega), HX.out, jn_lns] at this
        cases x; cases s; simp at this; cases this; rfl
      subst hfin
      go_wp2
      go_ret
      exact ⟨rfl, HF.out⟩

theorem law_lines (s : ByteArray) (hs : s.size ≤ maxLen) (w : World) :
    Calls Try.prog 4 #[.string s] w fun e w' => e = .returned (.bool true) ∧ Below w.heap.size w w' := by
  by_cases h : s.size ≤ 200
  · exact lnsLaw_any s w h
  · exact lnsLaw_big s w (by omega) hs
end Go.Proofs.Ytkemaaohmfdhbaa
