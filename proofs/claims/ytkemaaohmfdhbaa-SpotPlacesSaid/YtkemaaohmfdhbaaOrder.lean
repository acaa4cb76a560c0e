/- SpotOrder: the walk. -/
import Derived.Test.YtkemaaohmfdhbaaWorks
import Derived.BigQuiet
namespace Go.Proofs.Ytkemaaohmfdhbaa
open Go.RowKit

def lt2 (p q : Int × Int) : Prop := p.1 < q.1 ∨ p.1 = q.1 ∧ p.2 < q.2
theorem lt2_stp (p : Int × Int) (b : UInt8) : lt2 p (stp p b) := by
  unfold stp lt2
  split
  · left; simp; omega
  · right; simp; omega
theorem lt2_trans {p q r : Int × Int} (h : lt2 p q) (k : lt2 q r) : lt2 p r := by
  unfold lt2 at *; omega
theorem pl_nat (l : List UInt8) (n : Nat) : pl l (n : Int) = mv (1, 1) (l.take n) := by unfold pl; rw [Int.toNat_natCast]
theorem lt2_take (l : List UInt8) (i : Nat) : ∀ d : Nat, i + d < l.length → lt2 (mv (1, 1) (l.take i)) (mv (1, 1) (l.take (i + d + 1)))
  | 0, h => by rw [Nat.add_zero, List.take_succ_eq_append_getElem h, mv_snoc]; exact lt2_stp _ _
  | d + 1, h => by
    have := lt2_take l i d (by omega)
    rw [List.take_succ_eq_append_getElem h, mv_snoc]
    exact lt2_trans this (lt2_stp _ _)
theorem lt2_iff (l : List UInt8) (i k : Nat) (hi : i ≤ l.length) (hk : k ≤ l.length) : i < k ↔ lt2 (mv (1, 1) (l.take i)) (mv (1, 1) (l.take k)) := by
  constructor
  · intro h
    have := lt2_take l i (k - i - 1) (by omega)
    rwa [show i + (k - i - 1) + 1 = k from by omega] at this
  · intro h
    by_cases h1 : i < k
    · exact h1
    · exfalso
      by_cases h2 : i = k
      · subst h2; unfold lt2 at h; omega
      · have := lt2_take l k (i - k - 1) (by omega)
        rw [show k + (i - k - 1) + 1 = i from by omega] at this
        unfold lt2 at *; omega

theorem order_big (s : ByteArray) (a b : Int) (w : World) (hs : 200 < s.size) (hm : s.size ≤ maxLen) :
    Calls Try.prog 6 #[.string s, .int .u8 a, .int .u8 b] w fun e w' => e = .returned (.bool true) ∧ Below w.heap.size w w' := by
  unfold maxLen at hm
  go_enter Try.func6, Try.ntmps6
  go_wp2_with fail
  refine (works_any _).mono ?_
  rintro e w1 ⟨rfl, b1⟩
  go_wp2
  go_ret
  exact ⟨rfl, b1⟩

set_option maxHeartbeats 1000000 in
theorem order_any (s : ByteArray) (a b : Int) (w : World) (hs : s.size ≤ 200) (ha : 0 ≤ a) (ha' : a ≤ 255) (hb : 0 ≤ b) (hb' : b ≤ 255) :
    Calls Try.prog 6 #[.string s, .int .u8 a, .int .u8 b] w fun e w' => e = .returned (.bool true) ∧ Below w.heap.size w w' := by
  go_enter Try.func6, Try.ntmps6
  go_wp2_with fail
  refine (works_any _).mono ?_
  rintro e w1 ⟨rfl, b1⟩
  have hz : (0 : Int) < (s.size : Int) + 1 := by omega
  obtain ⟨i, hi⟩ : ∃ i : Nat, a % ((s.size : Int) + 1) = i := ⟨(a % ((s.size : Int) + 1)).toNat, by have := Int.emod_nonneg a (show (s.size : Int) + 1 ≠ 0 by omega); omega⟩
  obtain ⟨k, hk⟩ : ∃ k : Nat, b % ((s.size : Int) + 1) = k := ⟨(b % ((s.size : Int) + 1)).toNat, by have := Int.emod_nonneg b (show (s.size : Int) + 1 ≠ 0 by omega); omega⟩
  have hil : i ≤ s.size := by have := Int.emod_lt_of_pos a hz; omega
  have hkl : k ≤ s.size := by have := Int.emod_lt_of_pos b hz; omega
  have hiff := lt2_iff s.data.toList i k (by simpa using hil) (by simpa using hkl)
  rw [← pl_nat, ← pl_nat] at hiff
  have HI := Lib.hid hi
  have HK := Lib.hid hk
  have HIFF := Lib.hid hiff
  clear hi hk hiff
  go_wp2_with fail
  rw [HI.out]
  refine (place_any s _ _ (by omega)).mono ?_
  rintro e w2 ⟨rfl, b2⟩
  go_wp2_with fail
  rw [HK.out]
  refine (place_any s _ _ (by omega)).mono ?_
  rintro e w3 ⟨rfl, b3⟩
  have hfin : Below w.heap.size w w3 := (b1.trans (b2.mono b1.size)).trans (b3.mono (Nat.le_trans b1.size b2.size))
  have HF := Lib.hid hfin
  clear hfin b1 b2 b3
  revert HIFF
  generalize pl s.data.toList (i : Int) = P
  generalize pl s.data.toList (k : Int) = R
  intro HIFF
  clear HI HK
  by_cases h : i < k
  · have hl := HIFF.out.1 h
    have h' : ((i : Int) < (k : Int)) := by omega
    unfold lt2 at hl
    clear HIFF h
    by_cases h1 : P.1 < R.1
    · clear hl
      go_wp2
      go_ret
      exact ⟨rfl, HF.out⟩
    · have h2 : P.1 = R.1 := by omega
      have h3 : P.2 < R.2 := by omega
      have h4 : (P.1 == R.1) = true := by simpa using h2
      clear hl h2
      go_wp2
      go_ret
      exact ⟨rfl, HF.out⟩
  · have hl : ¬ lt2 P R := fun e => h (HIFF.out.2 e)
    have h' : decide (i < k) = false := decide_eq_false h
    unfold lt2 at hl
    clear HIFF h
    have h1 : decide (P.1 < R.1) = false := decide_eq_false (by omega)
    by_cases h2 : P.1 = R.1
    · have h3 : decide (P.2 < R.2) = false := decide_eq_false (by omega)
      have h4 : (P.1 == R.1) = true := by simpa using h2
      clear hl h2
      go_wp2
      go_ret
      exact ⟨rfl, HF.out⟩
    · have h4 : (P.1 == R.1) = false := by simpa using h2
      clear hl h2
      go_wp2
      go_ret
      exact ⟨rfl, HF.out⟩

theorem u8_wf {a : Int} (h : (Lit.int .u8 a).wf = true) : 0 ≤ a ∧ a ≤ 255 := by simpa [Lit.wf, IntKind.min, IntKind.max, IntKind.signed, IntKind.bits] using h

theorem law_order (s : ByteArray) (a b : Int) (hs : s.size ≤ maxLen) (ha : (Lit.int .u8 a).wf = true) (hb : (Lit.int .u8 b).wf = true) (w : World) :
    Calls Try.prog 6 #[.string s, .int .u8 a, .int .u8 b] w fun e w' => e = .returned (.bool true) ∧ Below w.heap.size w w' := by
  by_cases h : s.size ≤ 200
  · exact order_any s a b w h (u8_wf ha).1 (u8_wf ha).2 (u8_wf hb).1 (u8_wf hb).2
  · exact order_big s a b w (by omega) hs
end Go.Proofs.Ytkemaaohmfdhbaa
