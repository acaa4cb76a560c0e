/- Who goes over a text: count, the last line end, Move. -/
import Derived.Test.YtkemaaohmfdhbaaRows
import Derived.Test.YtkemaaohmfdhbaaPlain
import Derived.WalkKit
import Derived.ProofKit
import Derived.Lib.Hide
import Derived.Lib.Bytealg
import Derived.Lib.Strings
import Derived.Lib.Walk
import Derived.Deep.QuietTactic
import Derived.BigQuiet
namespace Go.Proofs.Ytkemaaohmfdhbaa
open Go.RowKit

/-- 'func(d byte) bool { return c == d }', c captured: it holds 10 -/
theorem same1 (b : Nat) (d : Int) (w : World) (hc : w.cell? ⟨b, 0, none⟩ = some (.int .u8 10)) :
    Calls Try.prog 28 #[.int .u8 d, .pointer (some ⟨b, 0, none⟩)] w fun e w' => e = .returned (.bool ((10 : Int) == d)) ∧ w = w' := by
  go_enter Try.func28, Try.ntmps28
  go_wp2
  go_ret
  exact ⟨rfl, rfl⟩

theorem take_snoc (s : ByteArray) (k : Nat) (h : k < s.size) : s.data.toList.take (k + 1) = s.data.toList.take k ++ [s[k]] := by
  rw [List.take_succ_eq_append_getElem (by simpa using h)]; rfl

theorem u8_eq (b : UInt8) : ((10 : Int) == (b.toNat : Int)) = decide (b = 10) := by
  rw [Bool.eq_iff_iff]
  simp only [beq_iff_eq, decide_eq_true_eq]
  constructor
  · intro h; apply UInt8.toNat_inj.1; simpa using (by omega : b.toNat = 10)
  · rintro rfl; rfl

set_option maxHeartbeats 400000 in
theorem count_any (s : ByteArray) (b : Nat) (w : World) (hs : s.size ≤ maxLen) (hc : w.cell? ⟨b, 0, none⟩ = some (.int .u8 10)) :
    Calls Try.prog 23 #[.string s, .func (.func 28) #[] #[.pointer (some ⟨b, 0, none⟩)]] w fun e w' => e = .returned (.int .i64 (ends s.data.toList)) ∧ w = w' := by
  unfold maxLen at hs
  go_enter Try.func23, Try.ntmps23
  go_wp2
  go_loop [5, 9] (fun n i => ∃ k : Nat, k ≤ s.size ∧ i = .int .i64 k ∧ n = .int .i64 (ends (s.data.toList.take k))) (fun _ i => s.size - (intOf i).toNat)
  case atStart => exact ⟨0, Nat.zero_le _, rfl, rfl⟩
  case round =>
    obtain ⟨k, hk, rfl, rfl⟩ := hrel
    have hle := ends_le (s.data.toList.take k)
    have hl : (s.data.toList.take k).length ≤ k := List.length_take_le _ _
    by_cases hlt : k < s.size
    · have hsn := ends_snoc (s.data.toList.take k) s[k]
      rw [← take_snoc s k hlt] at hsn
      have HS := Lib.hid hsn
      clear hsn
      have hu := Lib.hid (u8_eq s[k])
      go_wp2_with (go_at_call 28; refine (same1 b _ _ hc).mono ?_; rintro e w' ⟨rfl, rfl⟩)
      all_goals
        go_round
        case rel => exact ⟨k + 1, by omega, by go_num, by
          rw [HS.out]
          have hx := hu.out
          first
            | (have hy : ((10 : Int) == (s[k].toNat : Int)) = true := by assumption
               rw [hy] at hx; rw [if_pos (of_decide_eq_true hx.symm)]; go_num)
            | (have hy : ((10 : Int) == (s[k].toNat : Int)) = false := by assumption
               rw [hy] at hx; rw [if_neg (of_decide_eq_false hx.symm)]; go_num)⟩
        case measure => simp [intOf]; omega
    · go_wp2
      go_ret
      exact ⟨by rw [List.take_of_length_le (by simp; omega)]; rfl, rfl⟩

/-- 'same' boxes what it is handed -/
theorem same_any (c : Int) (w : World) :
    Calls Try.prog 24 #[.int .u8 c] w fun e w' => e = .returned (.func (.func 28) #[] #[.pointer (some ⟨w.heap.size, 0, none⟩)]) ∧ w' = w.alloc (.cells #[.int .u8 c] 5) := by
  have hmf : ∀ (fn : Fn) (first cap : Array Value) (w : World), (Instr.makeFunc fn first cap).run Try.prog w = .ok (.func fn first cap) w := fun _ _ _ _ => rfl
  go_enter Try.func24, Try.ntmps24
  go_wp2
  go_ret
  exact ⟨rfl, rfl⟩

theorem u8_eq' (b : UInt8) : ((b.toNat : Int) == (10 : Int)) = decide (b = 10) := by
  rw [Bool.eq_iff_iff]
  simp only [beq_iff_eq, decide_eq_true_eq]
  constructor
  · intro h; apply UInt8.toNat_inj.1; simpa using (by omega : b.toNat = 10)
  · rintro rfl; rfl

set_option maxHeartbeats 400000 in
theorem last_any (s : ByteArray) (w : World) (hs : s.size ≤ maxLen) :
    Calls Try.prog 29 #[.string s, .int .u8 10] w fun e w' => e = .returned (.int .i64 (lastIx s.data.toList)) ∧ w = w' := by
  unfold maxLen at hs
  go_enter Try.func29, Try.ntmps29
  go_wp2
  go_loop [5] (fun i => ∃ k : Nat, k ≤ s.size ∧ i = .int .i64 ((k : Int) - 1) ∧ lastIx (s.data.toList.take k) = lastIx s.data.toList) (fun i => (intOf i + 1).toNat)
  case atStart => exact ⟨s.size, Nat.le_refl _, rfl, by rw [List.take_of_length_le (by simp)]⟩
  case round =>
    obtain ⟨k, hk, rfl, hl⟩ := hrel
    have HL := Lib.hid hl
    clear hl
    cases k with
    | zero =>
      go_wp2
      go_ret
      have := HL.out
      simp [lastIx] at this
      exact ⟨by rw [← this]; rfl, rfl⟩
    | succ k =>
      have hu := Lib.hid (u8_eq' (s[k]'(by omega)))
      have hts := Lib.hid (take_snoc s k (by omega))
      have hlen : (s.data.toList.take k).length = k := by rw [List.length_take]; simp; omega
      have HN := Lib.hid hlen
      clear hlen
      by_cases hc : s[k]'(by omega) = 10
      · have ht : ((s[k].toNat : Int) == (10 : Int)) = true := by rw [hu.out]; simpa using hc
        have HC := Lib.hid hc
        clear hc
        go_wp2
        go_ret
        have hx := HL.out
        rw [hts.out, lastIx_snoc, if_pos HC.out, HN.out] at hx
        exact ⟨by rw [← hx]; rfl, rfl⟩
      · have ht : ((s[k].toNat : Int) == (10 : Int)) = false := by rw [hu.out]; simpa using hc
        go_wp2
        go_round
        case rel => 
          have hx := HL.out
          rw [hts.out, lastIx_snoc, if_neg hc] at hx
          exact ⟨k, by omega, by go_num, hx⟩
        case measure => simp [intOf]

/-- strings.LastIndexByte(s, 10) -/
theorem lastIndex_any (s : ByteArray) (w : World) (hs : s.size ≤ maxLen) :
    Calls Try.prog 25 #[.string s, .int .u8 10] w fun e w' => e = .returned (.int .i64 (lastIx s.data.toList)) ∧ w = w' := by
  go_enter Try.func25, Try.ntmps25
  go_wp2_with (go_at_call 29; refine (last_any s _ hs).mono ?_; rintro e w' ⟨rfl, rfl⟩)
  go_ret
  exact ⟨rfl, rfl⟩

set_option maxHeartbeats 400000 in
theorem move_any (line col : Int) (s : ByteArray) (w : World) (hs : s.size ≤ 4294967296) (h1 : -4294967296 ≤ line) (h2 : line ≤ 4294967296) (h3 : -4294967296 ≤ col) (h4 : col ≤ 4294967296) :
    Calls Try.prog 19 #[.int .i64 line, .int .i64 col, .string s] w fun e w' => e = .returned (.tuple #[.int .i64 (mv (line, col) s.data.toList).1, .int .i64 (mv (line, col) s.data.toList).2]) ∧ Below w.heap.size w w' := by
  have hs' : s.size ≤ maxLen := by unfold maxLen; omega
  have hb1 := Lib.hid (mv_eq s.data.toList (line, col))
  have hb2 := ends_le s.data.toList
  have hb3 := lastIx_bd s.data.toList
  have hb4 : s.data.toList.length ≤ 4294967296 := by simpa using hs
  have hc : (w.alloc (.cells #[.int .u8 10] 5)).cell? ⟨w.heap.size, 0, none⟩ = some (.int .u8 10) := by
    rw [World.cell?_alloc_at _ _ _ _ rfl]; rfl
  have HC := Lib.hid hc
  clear hc
  by_cases h0 : ends s.data.toList = 0
  · have HH := Lib.hid h0
    have hq : ((ends s.data.toList : Int) == 0) = true := by rw [h0]; rfl
    clear h0
    go_enter Try.func19, Try.ntmps19
    go_wp2_with fail
    refine (same_any 10 _).mono ?_
    rintro e w' ⟨rfl, rfl⟩
    go_wp2_with fail
    refine (count_any s _ _ hs' HC.out).mono ?_
    rintro e w' ⟨rfl, rfl⟩
    go_wp2
    go_ret2
    refine ⟨?_, (Below.refl _ _).alloc (Nat.le_refl _) _⟩
    show Ending.returned (.tuple #[.int .i64 line, .int .i64 (col + s.size)]) = _
    rw [hb1.out, if_pos HH.out]; simp
  · have HH := Lib.hid h0
    have hq : ((ends s.data.toList : Int) == 0) = false := by simpa using h0
    clear h0
    go_enter Try.func19, Try.ntmps19
    go_wp2_with fail
    refine (same_any 10 _).mono ?_
    rintro e w' ⟨rfl, rfl⟩
    go_wp2_with fail
    refine (count_any s _ _ hs' HC.out).mono ?_
    rintro e w' ⟨rfl, rfl⟩
    go_wp2_with fail
    refine (lastIndex_any s _ hs').mono ?_
    rintro e w' ⟨rfl, rfl⟩
    go_wp2
    go_ret2
    refine ⟨?_, (Below.refl _ _).alloc (Nat.le_refl _) _⟩
    show Ending.returned (.tuple #[.int .i64 (line + ends s.data.toList), .int .i64 (s.size - lastIx s.data.toList)]) = _
    rw [hb1.out, if_neg HH.out]; simp

theorem inside_any (s : ByteArray) (at' : Int) (w : World) (hs : s.size ≤ maxLen) :
    Calls Try.prog 20 #[.string s, .int .i64 at'] w fun e w' => e = .returned (.int .i64 ((min at'.toNat s.size : Nat) : Int)) ∧ w = w' := by
  unfold maxLen at hs
  go_enter Try.func20, Try.ntmps20
  go_wp2
  go_ret
  refine ⟨?_, rfl⟩
  show Ending.returned (.int .i64 (min (max at' 0) s.size)) = _
  rw [show min (max at' 0) (s.size : Int) = ((min at'.toNat s.size : Nat) : Int) from by omega]

/-- the line and the column of a place -/
def pl (l : List UInt8) (at' : Int) : Int × Int := mv (1, 1) (l.take at'.toNat)

theorem two_ints {a b c d : Int} (h : a = c) (h' : b = d) : Ending.returned (.tuple #[.int .i64 a, .int .i64 b]) = Ending.returned (.tuple #[.int .i64 c, .int .i64 d]) := by rw [h, h']

theorem place_any (s : ByteArray) (at' : Int) (w : World) (hs : s.size ≤ 4294967296) :
    Calls Try.prog 10 #[.string s, .int .i64 at'] w fun e w' => e = .returned (.tuple #[.int .i64 (pl s.data.toList at').1, .int .i64 (pl s.data.toList at').2]) ∧ Below w.heap.size w w' := by
  have hs' : s.size ≤ maxLen := by unfold maxLen; omega
  go_enter Try.func10, Try.ntmps10
  go_wp2_with fail
  refine (inside_any s at' _ hs').mono ?_
  rintro e w' ⟨rfl, rfl⟩
  go_wp2_with fail
  have hz : (s.extract 0 (min at'.toNat s.size)).size ≤ 4294967296 := by rw [ByteArray.size_extract]; omega
  refine (move_any 1 1 _ _ hz (by omega) (by omega) (by omega) (by omega)).mono ?_
  rintro e w' ⟨rfl, hb⟩
  go_wp2
  go_ret2
  have hx : mv (1, 1) (List.take (min at'.toNat s.size) s.data.toList) = pl s.data.toList at' := by
    unfold pl
    congr 1
    by_cases h : at'.toNat ≤ s.size
    · rw [Nat.min_eq_left h]
    · rw [Nat.min_eq_right (by omega), List.take_of_length_le (by simp), List.take_of_length_le (by simp; omega)]
  exact ⟨two_ints (congrArg Prod.fst hx) (congrArg Prod.snd hx), hb⟩
end Go.Proofs.Ytkemaaohmfdhbaa
