/- The document's Place, behind, At, Fail. -/
import Derived.Test.YtkemaaohmfdhbaaMoves
import Derived.Test.YtkemaaohmfdhbaaBlk
namespace Go.Proofs.Ytkemaaohmfdhbaa
open Go.RowKit

theorem mv1_bd (l : List UInt8) (h : l.length ≤ 4294967296) : -4294967296 ≤ (mv (1, 1) l).1 ∧ (mv (1, 1) l).1 ≤ 8589934592 ∧ -4294967296 ≤ (mv (1, 1) l).2 ∧ (mv (1, 1) l).2 ≤ 8589934592 := by
  have := mv_bd (1, 1) l 4294967296 (by simp) (by simp) (by simp) (by simp) (by simp)
  omega

/-- the loop's two cells -/
def Two (W : World) (B : Nat) (p : Int × Int) : Prop := Blk W B #[.int .i64 p.1, .int .i64 p.2] 26

set_option maxHeartbeats 400000 in
theorem refPlace_any (s : ByteArray) (at' : Int) (w : World) (hs : s.size ≤ 4294967296) :
    Calls Try.prog 11 #[.string s, .int .i64 at'] w fun e w' => e = .returned (.agg #[.int .i64 (pl s.data.toList at').1, .int .i64 (pl s.data.toList at').2]) ∧ Below w.heap.size w w' := by
  go_enter Try.func11, Try.ntmps11
  go_wp2
  go_loopw [6] (fun i wr => ∃ k : Nat, k ≤ s.size ∧ (k : Int) ≤ max at' 0 ∧ i = .int .i64 k ∧ Blk wr w.heap.size #[.int .i64 0, .int .i64 0] 26 ∧ Two wr (w.heap.size + 1) (mv (1, 1) (s.data.toList.take k)) ∧ Below w.heap.size w wr) (fun i _ => s.size - (intOf i).toNat)
  case atStart => 
    refine ⟨0, Nat.zero_le _, by omega, rfl, (Blk.new _ _ _).alloc _, ?_, ((Below.refl _ _).alloc (Nat.le_refl _) _).alloc (by simp) _⟩
    have := Blk.new (w.alloc (.cells #[.int .i64 0, .int .i64 0] 26)) #[.int .i64 1, .int .i64 1] 26
    rw [World.size_alloc] at this
    exact this
  case round =>
    obtain ⟨k, hk, hka, rfl, h0, h1, hB⟩ := hrel
    have c0 := h1.cell 0
    have c1 := h1.cell 1
    have f0 := h1.frozen 0
    have f1 := h1.frozen 1
    have d0 := h0.cell 0
    have d1 := h0.cell 1
    have e0 := h0.frozen 0
    have e1 := h0.frozen 1
    simp at c0 c1 d0 d1
    have hbd := mv1_bd (s.data.toList.take k) (by rw [List.length_take]; simp; omega)
    by_cases hlt : k < s.size
    · by_cases hat : (k : Int) < at'
      · have hts := Lib.hid (take_snoc s k hlt)
        have hu := Lib.hid (u8_eq' (s[k]))
        by_cases hc : s[k] = 10
        · have ht : ((s[k].toNat : Int) == (10 : Int)) = true := by rw [hu.out]; simpa using hc
          have HC := Lib.hid hc
          clear hc
          go_wp2
          go_roundw
          case rel =>
            refine ⟨k + 1, by omega, by omega, by go_num, ((h0.other (by omega) _ _).other (by omega) _ _).other (by omega) _ _, ?_, ((hB.setCell (by simp) _).setCell (by simp) _).setCell (by simp) _⟩
            have := ((h1.set 1 (.int .i64 ((mv (1, 1) (List.take k s.data.toList)).snd + 1))).set 0 (.int .i64 ((mv (1, 1) (List.take k s.data.toList)).fst + 1))).set 1 (.int .i64 1)
            rw [Two, hts.out, mv_snoc, stp, if_pos HC.out]
            exact this
          case measure => simp [intOf]; omega
        · have ht : ((s[k].toNat : Int) == (10 : Int)) = false := by rw [hu.out]; simpa using hc
          have HC := Lib.hid hc
          clear hc
          go_wp2
          go_roundw
          case rel =>
            refine ⟨k + 1, by omega, by omega, by go_num, h0.other (by omega) _ _, ?_, hB.setCell (by simp) _⟩
            have := h1.set 1 (.int .i64 ((mv (1, 1) (List.take k s.data.toList)).snd + 1))
            rw [Two, hts.out, mv_snoc, stp, if_neg HC.out]
            exact this
          case measure => simp [intOf]; omega
      · go_wp2
        refine bodyPost_ret (v := .agg #[.int .i64 (mv (1, 1) (List.take k s.data.toList)).fst, .int .i64 (mv (1, 1) (List.take k s.data.toList)).snd]) (by simp [results, Try.results11, go_sem, d0, d1]) rfl ⟨?_, (hB.setCell (by simp) _).setCell (by simp) _⟩
        have : at'.toNat = k := by omega
        rw [pl, this]
    · have hk' : k = s.size := by omega
      have hh := Lib.hid hk'
      clear hk'
      go_wp2
      refine bodyPost_ret (v := .agg #[.int .i64 (mv (1, 1) (List.take k s.data.toList)).fst, .int .i64 (mv (1, 1) (List.take k s.data.toList)).snd]) (by simp [results, Try.results11, go_sem, d0, d1]) rfl ⟨?_, (hB.setCell (by simp) _).setCell (by simp) _⟩
      have hq := hh.out
      rw [pl, List.take_of_length_le (by simp; omega), List.take_of_length_le (by simp; omega)]

theorem behind_any (p : Int × Int) (c : UInt8) (w : World) (h1 : -8589934592 ≤ p.1) (h2 : p.1 ≤ 8589934592) (h3 : -8589934592 ≤ p.2) (h4 : p.2 ≤ 8589934592) :
    Calls Try.prog 21 #[.agg #[.int .i64 p.1, .int .i64 p.2], .int .u8 (c.toNat : Int)] w fun e w' => e = .returned (.agg #[.int .i64 (stp p c).1, .int .i64 (stp p c).2]) ∧ Below w.heap.size w w' := by
  have hu := Lib.hid (u8_eq' c)
  by_cases hc : c = 10
  · have ht : ((c.toNat : Int) == (10 : Int)) = true := by rw [hu.out]; simpa using hc
    have HC := Lib.hid hc
    clear hc
    go_enter Try.func21, Try.ntmps21
    go_wp2
    refine bodyPost_ret (v := .agg #[.int .i64 (p.1 + 1), .int .i64 1]) (by simp [results, Try.results21, go_sem]) rfl ⟨?_, ((Below.refl _ _).alloc (Nat.le_refl _) _).alloc (by simp) _⟩
    rw [stp, if_pos HC.out]
  · have ht : ((c.toNat : Int) == (10 : Int)) = false := by rw [hu.out]; simpa using hc
    have HC := Lib.hid hc
    clear hc
    go_enter Try.func21, Try.ntmps21
    go_wp2
    refine bodyPost_ret (v := .agg #[.int .i64 p.1, .int .i64 (p.2 + 1)]) (by simp [results, Try.results21, go_sem]) rfl ⟨?_, ((Below.refl _ _).alloc (Nat.le_refl _) _).alloc (by simp) _⟩
    rw [stp, if_neg HC.out]
end Go.Proofs.Ytkemaaohmfdhbaa
