/- SpotBack: a place's line and column tell the place. -/
import Derived.Test.YtkemaaohmfdhbaaOrder
namespace Go.Proofs.Ytkemaaohmfdhbaa
open Go.RowKit

theorem mv_down (l : List UInt8) (c d : Int) : mv (c + d, 1) l = ((mv (c, 1) l).1 + d, (mv (c, 1) l).2) := by
  rw [mv_eq, mv_eq]
  split <;> simp <;> omega
theorem mv_right (l : List UInt8) (c : Int) : mv (1, c + 1) l = if ends l = 0 then (1, (mv (1, c) l).2 + 1) else mv (1, c) l := by
  rw [mv_eq, mv_eq]
  split <;> simp; omega
theorem mv_line (l : List UInt8) (a c : Int) : (mv (a, c) l).1 = a + ends l := by
  rw [mv_eq]
  split <;> simp; omega

/-- the line and the column of a place, by the lines -/
theorem in_lines : ∀ (l : List UInt8) (k : Nat), k ≤ l.length → ∃ n : Nat, (mv (1, 1) (l.take k)).1 = n + 1 ∧ ∃ x, (lns l)[n]? = some x ∧ 1 ≤ (mv (1, 1) (l.take k)).2 ∧ (mv (1, 1) (l.take k)).2 ≤ x.length + 1
  | [], k, h => by
    obtain rfl : k = 0 := by simpa using h
    exact ⟨0, by simp [mv], [], by simp [lns], by simp [mv], by simp [mv]⟩
  | b :: l, 0, _ => by
    obtain ⟨x, xs, hx⟩ : ∃ x xs, lns (b :: l) = x :: xs := by
      cases h : lns (b :: l) with
      | nil => exact absurd h (lns_ne _)
      | cons x xs => exact ⟨x, xs, rfl⟩
    exact ⟨0, by simp [mv], x, by rw [hx]; rfl, by simp [mv], by simp [mv]; omega⟩
  | b :: l, k + 1, h => by
    obtain ⟨n, h1, x, h2, h3, h4⟩ := in_lines l k (by simpa using h)
    by_cases hb : b = 10
    · subst hb
      refine ⟨n + 1, ?_, x, ?_, ?_, ?_⟩
      · rw [List.take_succ_cons, mv_cons, show stp (1, 1) 10 = (1 + 1, 1) from rfl, mv_down, h1]; simp
      · simpa [lns] using h2
      · rw [List.take_succ_cons, mv_cons, show stp (1, 1) 10 = (1 + 1, 1) from rfl, mv_down]; exact h3
      · rw [List.take_succ_cons, mv_cons, show stp (1, 1) 10 = (1 + 1, 1) from rfl, mv_down]; exact h4
    · have hs : stp (1, 1) b = (1, 1 + 1) := by simp [stp, hb]
      rw [mv_line] at h1
      obtain ⟨y, ys, hy⟩ : ∃ y ys, lns l = y :: ys := by
        cases h : lns l with
        | nil => exact absurd h (lns_ne _)
        | cons x xs => exact ⟨x, xs, rfl⟩
      have hl : lns (b :: l) = (b :: y) :: ys := by rw [lns, if_neg hb, hy]
      rw [hy] at h2
      rw [List.take_succ_cons, mv_cons, hs, mv_right, hl]
      by_cases h0 : ends (l.take k) = 0
      · rw [if_pos h0]
        obtain rfl : n = 0 := by omega
        obtain rfl : y = x := by simpa using h2
        exact ⟨0, by simp, b :: y, rfl, by simp; omega, by simp; omega⟩
      · rw [if_neg h0]
        obtain ⟨m, rfl⟩ : ∃ m, n = m + 1 := ⟨n - 1, by omega⟩
        exact ⟨m + 1, by rw [mv_line]; omega, x, by simpa using h2, h3, h4⟩

theorem at_same (l : List UInt8) (i k : Nat) (hi : i ≤ l.length) (h : isAt l (mv (1, 1) (l.take i)) k) : k = i := by
  obtain ⟨hk, he, hno⟩ := h
  have h1 := lt2_iff l i k hi hk
  have h2 := lt2_iff l k i hk hi
  rw [he] at h1 h2
  have hn : ¬ lt2 (mv (1, 1) (l.take i)) (mv (1, 1) (l.take i)) := by unfold lt2; omega
  have : ¬ i < k := fun e => hn (h1.1 e)
  have : ¬ k < i := fun e => hn (h2.1 e)
  omega

/-- At finds a place's line and column there -/
theorem at_pl (s : ByteArray) (i : Nat) (w : World) (hs : s.size ≤ 4294967296) (hi : i ≤ s.size) :
    Calls Try.prog 12 #[.string s, .int .i64 (pl s.data.toList (i : Int)).1, .int .i64 (pl s.data.toList (i : Int)).2] w fun e w' => e = .returned (.tuple #[.int .i64 i, .bool true]) ∧ Below w.heap.size w w' := by
  refine (at_any s _ _ w hs).mono ?_
  rw [pl_nat]
  rintro e w' ⟨⟨k, rfl, hk⟩ | ⟨rfl, hno⟩, hb⟩
  · have := at_same s.data.toList i k (by simpa using hi) hk
    subst this
    exact ⟨rfl, hb⟩
  · exact absurd rfl (hno i (by simpa using hi))

/-- what a place's line is -/
def LineAt (p : Int × Int) (w : World) (e : Ending) (w' : World) : Prop :=
  ∃ (g cap len n : Nat) (x : ByteArray), e = .returned (.slice (some ⟨g, 0, none⟩) len cap) ∧ p.1 = n + 1 ∧ n < len ∧ len ≤ 4294967297 ∧ w'.cell? ⟨g, n, none⟩ = some (.string x) ∧ x.size ≤ 4294967296 ∧ 1 ≤ p.2 ∧ p.2 ≤ x.size + 1 ∧ Below w.heap.size w w'

theorem lns_parts : ∀ (l : List UInt8), ∀ x ∈ lns l, x.length ≤ l.length
  | [], x, h => by simp [lns] at h; simp [h]
  | b :: l, x, h => by
    simp only [lns] at h
    split at h
    · rcases List.mem_cons.1 h with rfl | h
      · simp
      · have := lns_parts l x h; simp; omega
    · split at h
      · rename_i y ys hy
        rcases List.mem_cons.1 h with rfl | h
        · have := lns_parts l y (by rw [hy]; simp); simp; omega
        · have := lns_parts l x (by rw [hy]; simp [h]); simp; omega
      · simp at h; subst h; simp

theorem lines_at (s : ByteArray) (i : Nat) (w : World) (hs : s.size ≤ 4294967296) (hi : i ≤ s.size) :
    Calls Try.prog 16 #[.string s] w (LineAt (pl s.data.toList (i : Int)) w) := by
  refine (lines_any s w hs).mono ?_
  rintro e w' ⟨v, xs, rfl, hx, hr, hb⟩
  obtain ⟨n, h1, y, h2, h3, h4⟩ := in_lines s.data.toList i (by simpa using hi)
  have hlen : xs.length = (lns s.data.toList).length := by rw [← hx, tx, List.length_map]
  have hle := lns_len s.data.toList
  have hn : n < xs.length := by
    rw [hlen]; exact (List.getElem?_eq_some_iff.1 h2).1
  obtain ⟨m, hm⟩ : ∃ m, xs.length = m + 1 := ⟨xs.length - 1, by omega⟩
  rw [hm] at hr
  obtain ⟨g, cap, rfl⟩ := ownsRow_succ hr
  have hc := hr.cells (g := g) rfl n (.string xs[n]) (by rw [List.getElem?_map, List.getElem?_eq_getElem hn]; rfl)
  have hy : y = xs[n].data.toList := by
    rw [← hx, tx, List.getElem?_map, List.getElem?_eq_getElem hn] at h2
    simpa using h2.symm
  have hys : y.length ≤ s.data.toList.length := lns_parts _ y (List.mem_of_getElem? h2)
  rw [hy] at h4 hys
  simp at hle hys h4
  refine ⟨g, cap, m + 1, n, xs[n], rfl, by rw [pl_nat]; exact h1, by omega, by omega, ?_, by omega, by rw [pl_nat]; exact h3, by rw [pl_nat]; exact h4, hb⟩
  have ha : (⟨g, 0, none⟩ : Addr).add n = ⟨g, n, none⟩ := by
    cases n <;> simp [Addr.add]
  rw [ha] at hc
  exact hc

theorem back_big (s : ByteArray) (a : Int) (w : World) (hs : 200 < s.size) (hm : s.size ≤ maxLen) :
    Calls Try.prog 5 #[.string s, .int .u8 a] w fun e w' => e = .returned (.bool true) ∧ Below w.heap.size w w' := by
  unfold maxLen at hm
  go_enter Try.func5, Try.ntmps5
  go_wp2_with fail
  refine (works_any _).mono ?_
  rintro e w1 ⟨rfl, b1⟩
  go_wp2
  go_ret
  exact ⟨rfl, b1⟩

set_option maxHeartbeats 1000000 in
theorem back_any (s : ByteArray) (a : Int) (w : World) (hs : s.size ≤ 200) (ha : 0 ≤ a) (ha' : a ≤ 255) :
    Calls Try.prog 5 #[.string s, .int .u8 a] w fun e w' => e = .returned (.bool true) ∧ Below w.heap.size w w' := by
  have hz : (0 : Int) < (s.size : Int) + 1 := by omega
  obtain ⟨i, hi⟩ : ∃ i : Nat, a % ((s.size : Int) + 1) = i := ⟨(a % ((s.size : Int) + 1)).toNat, by have := Int.emod_nonneg a (show (s.size : Int) + 1 ≠ 0 by omega); omega⟩
  have hil : i ≤ s.size := by have := Int.emod_lt_of_pos a hz; omega
  have HI := Lib.hid hi
  clear hi
  go_enter Try.func5, Try.ntmps5
  go_wp2_with fail
  refine (works_any _).mono ?_
  rintro e w1 ⟨rfl, b1⟩
  go_wp2_with fail
  rw [HI.out]
  refine (place_any s _ _ (by omega)).mono ?_
  rintro e w2 ⟨rfl, b2⟩
  go_wp2_with fail
  refine (at_pl s i _ (by omega) hil).mono ?_
  rintro e w3 ⟨rfl, b3⟩
  go_wp2_with fail
  refine (lines_at s i _ (by omega) hil).mono ?_
  rintro e w4 ⟨g, cap, len, n, x, rfl, h1, h2, h3, hc, h5, h6, h7, b4⟩
  have hfin : Below w.heap.size w w4 := ((b1.trans (b2.mono b1.size)).trans (b3.mono (Nat.le_trans b1.size b2.size))).trans (b4.mono (Nat.le_trans (Nat.le_trans b1.size b2.size) b3.size))
  have HF := Lib.hid hfin
  clear hfin b1 b2 b3 b4 HI
  revert h1 h6 h7
  generalize pl s.data.toList (i : Int) = P
  intro h1 h6 h7
  obtain ⟨P1, P2⟩ := P
  simp only at h1 h6 h7
  subst h1
  go_wp2
  go_ret
  exact ⟨rfl, HF.out⟩

theorem law_back (s : ByteArray) (a : Int) (hs : s.size ≤ maxLen) (ha : (Lit.int .u8 a).wf = true) (w : World) :
    Calls Try.prog 5 #[.string s, .int .u8 a] w fun e w' => e = .returned (.bool true) ∧ Below w.heap.size w w' := by
  by_cases h : s.size ≤ 200
  · exact back_any s a w h (u8_wf ha).1 (u8_wf ha).2
  · exact back_big s a w (by omega) hs
end Go.Proofs.Ytkemaaohmfdhbaa
