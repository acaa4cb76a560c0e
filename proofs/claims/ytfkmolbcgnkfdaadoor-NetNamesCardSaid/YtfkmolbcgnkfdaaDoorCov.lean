/- Texts of one kind together. -/
import Derived.Test.YtfkmolbcgnkfdaaDoorRChk
import Derived.Laws.OwnMore
import Derived.Laws.IdiomStrings
import Derived.Test.YtfkmolbcgnkfdaaDoorNets
import Derived.Test.YtfkmolbcgnkfdaaDoorGen
import Derived.OwnWalkIn
import Derived.TacticsInMore
import Derived.LoopNIn
import Derived.LoopIn
import Derived.RegionIn
import Derived.Stop.RegionWithIn
import Derived.Shelf.Abstract
import Derived.Shelf.RegionOpen
import Derived.Sort.WalkA
import Derived.Test.YtfkmolbcgnkfdaaDoorShelf
import Derived.RangeFuncBox
/- The op of a gate of one. -/
namespace Go.Proofs.YtfkmolbcgnkfdaaDoor
open Go.RowKit
attribute [local go_sem] Oper.semAt_some
set_option maxRecDepth 100000
set_option maxHeartbeats 1000000
def oneF (o : Int) : Int := if o = 4 ∨ o = 6 ∨ o = 8 then 2 else if o = 5 ∨ o = 7 ∨ o = 9 then 3 else o
theorem one_any (o : Int) (w : World) : Calls Tryd.prog 63 #[.int .i64 o] w fun e w' => e = .returned (.int .i64 (oneF o)) ∧ w = w' := by
  obtain ⟨q, hq⟩ : ∃ q, oneF o = q := ⟨_, rfl⟩
  rw [hq]
  have HQ := Lib.hid hq
  clear hq
  go_enter Tryd.func63, Tryd.ntmps63
  by_cases e4 : o = 4
  · subst e4
    obtain rfl : 2 = q := HQ.out
    clear HQ
    go_wp2
    go_ret
    exact ⟨rfl, rfl⟩
  have d4 : (o == 4) = false := by simpa using e4
  by_cases e6 : o = 6
  · subst e6
    obtain rfl : 2 = q := HQ.out
    clear HQ
    go_wp2
    go_ret
    exact ⟨rfl, rfl⟩
  have d6 : (o == 6) = false := by simpa using e6
  by_cases e8 : o = 8
  · subst e8
    obtain rfl : 2 = q := HQ.out
    clear HQ
    go_wp2
    go_ret
    exact ⟨rfl, rfl⟩
  have d8 : (o == 8) = false := by simpa using e8
  by_cases e5 : o = 5
  · subst e5
    obtain rfl : 3 = q := HQ.out
    clear HQ
    go_wp2
    go_ret
    exact ⟨rfl, rfl⟩
  have d5 : (o == 5) = false := by simpa using e5
  by_cases e7 : o = 7
  · subst e7
    obtain rfl : 3 = q := HQ.out
    clear HQ
    go_wp2
    go_ret
    exact ⟨rfl, rfl⟩
  have d7 : (o == 7) = false := by simpa using e7
  by_cases e9 : o = 9
  · subst e9
    obtain rfl : 3 = q := HQ.out
    clear HQ
    go_wp2
    go_ret
    exact ⟨rfl, rfl⟩
  have d9 : (o == 9) = false := by simpa using e9
  obtain rfl : o = q := by
    rw [← HQ.out]
    unfold oneF
    rw [if_neg (by omega), if_neg (by omega)]
  clear HQ
  go_wp2
  go_ret
  exact ⟨rfl, rfl⟩
end Go.Proofs.YtfkmolbcgnkfdaaDoor

/- How many bits of a small number are 1. -/
namespace Go.Proofs.YtfkmolbcgnkfdaaDoor
open Go.RowKit
attribute [local go_sem] Oper.semAt_some
set_option maxRecDepth 100000
set_option maxHeartbeats 1000000
def pcF (x : Nat) : Nat := x % 2 + (x / 2 % 2 + (x / 4 % 2 + (x / 8 % 2 + (x / 16 % 2 + (x / 32 % 2 + (x / 64 % 2 + x / 128 % 2))))))
theorem ones64_any (n : Fin 256) (w : World) : Calls Tryd.prog 123 #[.int .u64 ((n.val : Nat) : Int)] w fun e w' => e = .returned (.int .i64 (pcF n.val)) ∧ w = w' := by
  have h1 := n.isLt
  go_enter Tryd.func123, Tryd.ntmps123
  go_wp2
  go_ret
  refine ⟨?_, rfl⟩
  refine congrArg (fun z => Ending.returned (.int .i64 z)) ?_
  clear h1
  revert n
  decide +kernel
theorem ones_any (x : Nat) (hx : x < 256) (w : World) : Calls Tryd.prog 112 #[.int .u64 (x : Int)] w fun e w' => e = .returned (.int .i64 (pcF x)) ∧ w = w' := by
  go_enter Tryd.func112, Tryd.ntmps112
  go_wp2_with fail
  refine (ones64_any ⟨x, hx⟩ _).mono ?_
  rintro e w' ⟨rfl, rfl⟩
  go_wp2
  go_ret
  exact ⟨rfl, rfl⟩
end Go.Proofs.YtfkmolbcgnkfdaaDoor

/- A number in n binary digits. -/
namespace Go.Proofs.YtfkmolbcgnkfdaaDoor
open Go.RowKit
attribute [local go_sem] Oper.semAt_some
set_option maxRecDepth 100000
set_option maxHeartbeats 1000000
theorem info5 : (Tryd.prog.info? 5).map (fun i => (i.zero, i.size, i.bytes)) = some (some (.int .u8 0), 1, 1) := by kernel_rfl
def digB (x n j : Nat) : UInt8 := UInt8.ofNat (48 + x / 2 ^ (n - 1 - j) % 2)
def rowF (x n : Nat) : ByteArray := ⟨((List.range n).map (digB x n)).toArray⟩
def cellB (x n j : Nat) : Value := .int .u8 ((digB x n j).toNat : Int)
def rowC (x n k : Nat) : List Value := (List.range n).map (fun j => if j < k then cellB x n j else .int .u8 0)
theorem rowC_set (x n k : Nat) : (rowC x n k).set k (cellB x n k) = rowC x n (k + 1) := by
  apply List.ext_getElem (by simp [rowC])
  intro j h1 h2
  simp only [rowC, List.getElem_set, List.getElem_map, List.getElem_range]
  by_cases e : k = j
  · subst e
    rw [if_pos rfl, if_pos (by omega)]
  · rw [if_neg e]
    by_cases hj : j < k
    · rw [if_pos hj, if_pos (by omega)]
    · rw [if_neg hj, if_neg (by omega)]
theorem rowC_at (x n k j : Nat) (hj : j < n) : (rowC x n k)[j]? = some (if j < k then cellB x n j else .int .u8 0) := by
  unfold rowC
  rw [List.getElem?_map, List.getElem?_range hj]
  rfl
theorem rowC_zero (x n : Nat) : (madeCells (Value.int .u8 0).cells (n * 1)).toList = rowC x n 0 := by
  rw [Nat.mul_one, show (Value.int .u8 0).cells = #[.int .u8 0] from rfl, toList_madeCells_one]
  apply List.ext_getElem (by simp [rowC])
  intro j h1 h2
  simp [rowC]
theorem and_one (d : Fin 256) : (48 + bits BinOp.and IntKind.i64 ((d.val : Nat) : Int) 1) % 256 = ((UInt8.ofNat (48 + d.val % 2)).toNat : Int) := by
  revert d
  decide +kernel
theorem cell_eq (x n k : Nat) (hx : x < 256) : Value.int IntKind.u8 ((48 + bits BinOp.and IntKind.i64 ((x : Int) / 2 ^ (n - 1 - k)) 1) % 256) = cellB x n k := by
  have h1 : x / 2 ^ (n - 1 - k) < 256 := Nat.lt_of_le_of_lt (Nat.div_le_self _ _) hx
  have h2 := and_one ⟨x / 2 ^ (n - 1 - k), h1⟩
  have h3 : ((x / 2 ^ (n - 1 - k) : Nat) : Int) = (x : Int) / 2 ^ (n - 1 - k) := by simp
  rw [← h3]
  unfold cellB digB
  rw [h2]
theorem rowOf_any (x n : Nat) (hx : x < 256) (hn : n ≤ 8) (w : World) : Calls Tryd.prog 113 #[.int .i64 (x : Int), .int .i64 (n : Int)] w fun e w' => e = .returned (.string (rowF x n)) ∧ Below w.heap.size w w' := by
  obtain ⟨i0, hi, hz0, hz1, hz2⟩ := info_parts info5
  obtain ⟨w1, hmk, r1, g1⟩ := run_make_full (P := Tryd.prog) (w := w) w.heap.size 140 5 i0 (.int .u8 0) 1 Tryd.underlying140 hi hz0 hz1 .i64 .i64 n (by rw [hz2]; omega) (by unfold maxLen; omega) (Nat.le_refl _)
  rw [rowC_zero x n] at r1
  have R1 := Lib.hid r1
  have B1 := Lib.hid ((Below.refl w.heap.size w).grown g1 (Nat.le_refl _) (fun k e => by cases e))
  clear r1 g1
  go_enter Tryd.func113, Tryd.ntmps113
  go_wp2
  clear hmk
  go_loopw [6, 11] (fun _ i wr => ∃ k : Nat, k ≤ n ∧ i = .int .i64 (k : Int) ∧ wr.ownsRow w.heap.size 5 1 (.slice (some ⟨w.heap.size, 0, none⟩) n n) n (rowC x n k) ∧ Below w.heap.size w wr) (fun _ i _ => n - (intOf i).toNat)
  case atStart => exact ⟨0, by omega, rfl, R1.out, B1.out⟩
  case round =>
    obtain ⟨k, hk, rfl, hrow, hB⟩ := hrel
    clear R1 B1
    by_cases hlt : k < n
    · have hlt' : (k : Int) < (n : Int) := by omega
      have hs1 : ((n : Int) - 1) - (k : Int) = ((n - 1 - k : Nat) : Int) := by omega
      have c0 : wr.cell? ⟨w.heap.size, k, none⟩ = some (.int .u8 0) := by
        rw [hrow.cellAt k (by omega), rowC_at x n k k hlt, if_neg (by omega)]
      have f0 := hrow.frozenAt k
      have hsz := (hrow.lt w.heap.size rfl).2
      have HE := Lib.hid (cell_eq x n k hx)
      have hst := hrow.stored k (cellB x n k)
      rw [rowC_set] at hst
      have HS := Lib.hid hst.1
      have HB := Lib.hid (hB.setCell (p := ⟨w.heap.size, k, none⟩) (Nat.le_refl _) (cellB x n k))
      clear hst hrow hB
      go_wp2
      rw [HE.out]
      refine ⟨⟨k + 1, by omega, by go_num, HS.out, HB.out⟩, ?_⟩
      simp [intOf]; omega
    · have hge : (n : Int) ≤ (k : Int) := by omega
      obtain rfl : k = n := by omega
      have hl : ((List.range k).map (digB x k)).length = k := by simp
      have hcv := run_convert_bytes_back (P := Tryd.prog) wr 140 9 5 ⟨w.heap.size, 0, none⟩ k ((List.range k).map (digB x k)) Tryd.underlying140 Tryd.underlying5 Tryd.underlying9 (fun j hj => by
        have hj' : j < k := by simpa using hj
        have h1 := hrow.cellAt j (by omega)
        rw [rowC_at x k k j hj', if_pos hj'] at h1
        by_cases h0 : j = 0
        · subst h0
          simpa [Addr.add, cellB] using h1
        · simpa [Addr.add, cellB, h0] using h1)
      rw [hl] at hcv
      have HB := Lib.hid hB
      clear hrow hB hl
      go_wp2
      go_ret
      exact ⟨rfl, HB.out⟩
end Go.Proofs.YtfkmolbcgnkfdaaDoor

/- So many of one sign. -/
namespace Go.Proofs.YtfkmolbcgnkfdaaDoor
open Go.RowKit
attribute [local go_sem] Oper.semAt_some
set_option maxRecDepth 100000
set_option maxHeartbeats 1000000
def allF (c : UInt8) (n : Nat) : ByteArray := ⟨(List.replicate n c).toArray⟩
theorem allF_size (c : UInt8) (n : Nat) : (allF c n).size = n := by
  show (List.replicate n c).toArray.size = n
  simp
theorem allF_succ (c : UInt8) (n : Nat) : allF c n ++ ⟨#[c]⟩ = allF c (n + 1) := by
  apply ByteArray.ext
  rw [ByteArray.data_append]
  show (List.replicate n c).toArray ++ #[c] = (List.replicate (n + 1) c).toArray
  rw [List.replicate_succ']
  apply Array.ext'
  simp
theorem all_any (c : UInt8) (n : Nat) (hn : n ≤ 8) (w : World) : Calls Tryd.prog 68 #[.string ⟨#[c]⟩, .int .i64 (n : Int)] w fun e w' => e = .returned (.string (allF c n)) ∧ w = w' := by
  go_enter Tryd.func68, Tryd.ntmps68
  go_wp2
  go_loopw [5, 6] (fun v i wr => ∃ k : Nat, k ≤ n ∧ v = .string (allF c k) ∧ i = .int .i64 (k : Int) ∧ w = wr) (fun _ i _ => n - (intOf i).toNat)
  case atStart => exact ⟨0, by omega, rfl, rfl, rfl⟩
  case round =>
    obtain ⟨k, hk, rfl, rfl, rfl⟩ := hrel
    by_cases hlt : k < n
    · have hlt' : (k : Int) < (n : Int) := by omega
      have hsz := allF_size c k
      have hs1 : (⟨#[c]⟩ : ByteArray).size = 1 := rfl
      have HE := Lib.hid (allF_succ c k)
      have hml : ¬ 9223372036854775807 < (allF c k).size + 1 := by rw [hsz]; omega
      generalize allF c k = u at hsz HE hml ⊢
      clear hsz
      go_wp2
      refine ⟨⟨k + 1, by omega, ?_, by go_num, trivial⟩, ?_⟩
      · rw [HE.out]
      · simp [intOf]; omega
    · have hge : (n : Int) ≤ (k : Int) := by omega
      obtain rfl : k = n := by omega
      go_wp2
      go_ret
      exact ⟨rfl, rfl⟩
end Go.Proofs.YtfkmolbcgnkfdaaDoor

/- The rows whose 1s are odd (even) in number, as the document asks them. -/
namespace Go.Proofs.YtfkmolbcgnkfdaaDoor
open Go.RowKit
attribute [local go_sem] Oper.semAt_some
set_option maxRecDepth 100000
set_option maxHeartbeats 1000000
/-- the first m digits; how many of them are 1 -/
def rowP (x n m : Nat) : ByteArray := ⟨((List.range m).map (digB x n)).toArray⟩
def cntF (x n : Nat) : Nat → Nat
  | 0 => 0
  | m + 1 => cntF x n m + x / 2 ^ (n - 1 - m) % 2
def parP (p i : Nat) : Bool := pcF i % 2 == p
def parL (n p k : Nat) : List ByteArray := ((List.range k).filter (parP p)).map (fun i => rowF i n)
theorem parL_yes (n p k : Nat) (h : parP p k = true) : parL n p (k + 1) = parL n p k ++ [rowF k n] := by
  simp [parL, List.range_succ, List.filter_append, h]
theorem parL_no (n p k : Nat) (h : parP p k = false) : parL n p (k + 1) = parL n p k := by
  simp [parL, List.range_succ, List.filter_append, h]
theorem parL_len (n p k : Nat) : (parL n p k).length ≤ k := by
  unfold parL
  rw [List.length_map]
  exact Nat.le_trans (List.length_filter_le _ _) (by simp)
theorem rowP_size (x n m : Nat) : (rowP x n m).size = m := by
  show ((List.range m).map (digB x n)).toArray.size = m
  simp
theorem rowP_succ (x n m : Nat) : rowP x n (m + 1) = rowP x n m ++ ⟨#[digB x n m]⟩ := by
  apply ByteArray.ext
  rw [ByteArray.data_append]
  apply Array.ext'
  simp [rowP, List.range_succ]
theorem dig_one (x n m : Nat) (h : x / 2 ^ (n - 1 - m) % 2 = 1) : digB x n m = 49 := by unfold digB; rw [h]; rfl
theorem dig_zero (x n m : Nat) (h : x / 2 ^ (n - 1 - m) % 2 = 0) : digB x n m = 48 := by unfold digB; rw [h]; rfl
theorem cnt_pc (n : Fin 9) (x : Fin 256) (h : x.val < 2 ^ n.val) : cntF x.val n.val n.val = pcF x.val := by
  revert n x
  decide +kernel
theorem cnt_le (x n : Nat) : ∀ m, cntF x n m ≤ m
  | 0 => Nat.le_refl _
  | m + 1 => by
    have := cnt_le x n m
    rw [cntF]
    omega
theorem tmod_div (k e : Nat) : ((k : Int) / 2 ^ e).tmod 2 = ((k / 2 ^ e % 2 : Nat) : Int) := by
  have h : (k : Int) / 2 ^ e = ((k / 2 ^ e : Nat) : Int) := by simp
  rw [h]
  rfl
theorem odd_any (n p : Nat) (hn : n ≤ 8) (w : World) : Calls Tryd.prog 69 #[.int .i64 (n : Int), .int .i64 (p : Int)] w fun e w' => ∃ V, e = .returned V ∧ w'.ownsRow w.heap.size 9 1 V (parL n p (2 ^ n)).length ((parL n p (2 ^ n)).flatMap stc) ∧ Below w.heap.size w w' := by
  obtain ⟨i0, hi, hz0, hz1, hz2⟩ := info_parts info9
  obtain ⟨T, hT⟩ : ∃ T, 2 ^ n = T := ⟨_, rfl⟩
  have hT2 : T ≤ 256 := by rw [← hT]; exact Nat.le_trans (Nat.pow_le_pow_right (by decide) hn) (by decide)
  have hTi : (2 : Int) ^ n = (T : Int) := by rw [← hT]; simp
  go_enter Tryd.func69, Tryd.ntmps69
  go_wp2
  go_loopw [5, 6] (fun v i wr => ∃ k : Nat, k ≤ T ∧ i = .int .i64 (k : Int) ∧ wr.ownsRow w.heap.size 9 1 v (parL n p k).length ((parL n p k).flatMap stc) ∧ Below w.heap.size w wr) (fun _ i _ => T - (intOf i).toNat)
  case atStart => exact ⟨0, by omega, rfl, World.ownsRow_nil _ _ _ _, Below.refl _ _⟩
  case round =>
    obtain ⟨k, hk, rfl, hrow, hB⟩ := hrel
    rename World => wo
    have RW := Lib.hid hrow
    have HB := Lib.hid hB
    clear hrow hB
    by_cases hlt : k < T
    · have hlt' : (k : Int) < (T : Int) := by omega
      go_wp2
      go_loopw [7, 8, 9] (fun s q j wq => ∃ m : Nat, m ≤ n ∧ s = .string (rowP k n m) ∧ q = .int .i64 (cntF k n m : Int) ∧ j = .int .i64 ((n : Int) - 1 - (m : Int)) ∧ wo = wq) (fun _ _ j _ => (intOf j + 1).toNat)
      case atStart => exact ⟨0, by omega, rfl, rfl, by go_num, rfl⟩
      case round =>
      obtain ⟨m, hm, rfl, rfl, rfl, rfl⟩ := hrel
      have hcl := cnt_le k n m
      by_cases hlt2 : m < n
      · have hs1 : (n : Int) - 1 - (m : Int) = ((n - 1 - m : Nat) : Int) := by omega
        have hml : ¬ 9223372036854775807 < (rowP k n m).size + 1 := by rw [rowP_size]; omega
        have hdi : ((k : Int) / 2 ^ (n - 1 - m)).tmod 2 = ((k / 2 ^ (n - 1 - m) % 2 : Nat) : Int) := tmod_div k (n - 1 - m)
        rcases Nat.mod_two_eq_zero_or_one (k / 2 ^ (n - 1 - m)) with hd | hd
        · have hd1 : ((k : Int) / 2 ^ (n - 1 - m)).tmod 2 = 0 := by rw [hdi, hd]; rfl
          have HE := Lib.hid ((rowP_succ k n m).trans (by rw [dig_zero k n m hd]))
          have HC := Lib.hid (show cntF k n (m + 1) = cntF k n m + 0 by rw [cntF, hd])
          clear hdi
          generalize rowP k n m = u at hml HE ⊢
          generalize cntF k n m = cc at hcl HC ⊢
          go_wp2
          refine ⟨⟨m + 1, by omega, ?_, ?_, by go_num, trivial⟩, ?_⟩
          · rw [HE.out]
          · rw [HC.out]; go_num
          · simp [intOf]; omega
        · have hd1 : ((k : Int) / 2 ^ (n - 1 - m)).tmod 2 = 1 := by rw [hdi, hd]; rfl
          have HE := Lib.hid ((rowP_succ k n m).trans (by rw [dig_one k n m hd]))
          have HC := Lib.hid (show cntF k n (m + 1) = cntF k n m + 1 by rw [cntF, hd])
          clear hdi
          generalize rowP k n m = u at hml HE ⊢
          generalize cntF k n m = cc at hcl HC ⊢
          go_wp2
          refine ⟨⟨m + 1, by omega, ?_, ?_, by go_num, trivial⟩, ?_⟩
          · rw [HE.out]
          · rw [HC.out]; go_num
          · simp [intOf]; omega
      · obtain rfl : m = n := by omega
        have hneg : (m : Int) - 1 - (m : Int) = -1 := by omega
        have hpc := cnt_pc ⟨m, by omega⟩ ⟨k, by omega⟩ (show k < 2 ^ m by rw [hT]; exact hlt)
        simp only at hpc
        have hrf : rowP k m m = rowF k m := rfl
        rw [hrf, hpc]
        rw [hpc] at hcl
        have hpl := parL_len m p k
        by_cases e : pcF k % 2 = p
        · have he : (pcF k : Int) % 2 = (p : Int) := by omega
          have HT := Lib.hid (parL_yes m p k (by unfold parP; rw [beq_iff_eq]; exact e))
          clear hpc hrf e
          generalize pcF k = cc at he hcl ⊢
          generalize parL m p k = acc at HT RW hpl ⊢
          generalize rowF k m = u at HT ⊢
          have hs1 := HB.out.size
          go_wp2_with (at_builtin; go_loud (refine wpList_append_own _ rfl _ _ 22 rfl w.heap.size 9 i0 (.string ⟨#[]⟩) 1 16 Tryd.underlying22 hi hz0 hz1 hz2 rfl (by decide) _ acc.length _ rfl (row_below RW.out (below_one _ _)) ⟨wo.heap.size, 0, none⟩ 1 1 [.string u] rfl rfl (cell_one_at _ _ _ (by simp)) (by simp [Value.oneCell']) (by unfold maxLen; omega) (by omega) (by first | omega | (simp; omega)) ?_; intro v4 w4 r4 g4 _))
          have B5 := Lib.hid ((HB.out.alloc (by omega) (.cells #[.string u] 9)).grown g4 (by simp; omega) (fun j e => (RW.out.lt j e).1))
          have r5 := row_more r4
          rw [← HT.out] at r5
          have R5 := Lib.hid r5
          clear r4 g4 r5
          go_wp2
          refine ⟨⟨k + 1, by omega, by go_num, R5.out, B5.out⟩, ?_⟩
          simp [intOf]; omega
        · have he : ((pcF k : Int) % 2 == (p : Int)) = false := by rw [beq_eq_false_iff_ne]; omega
          have HT := Lib.hid (parL_no m p k (by unfold parP; rw [beq_eq_false_iff_ne]; exact e))
          clear hpc hrf e
          generalize pcF k = cc at he hcl ⊢
          go_wp2
          refine ⟨⟨k + 1, by omega, by go_num, by rw [HT.out]; exact RW.out, HB.out⟩, ?_⟩
          simp [intOf]; omega
    · have hge : (T : Int) ≤ (k : Int) := by omega
      obtain rfl : k = T := by omega
      go_wp2
      go_ret
      exact ⟨_, rfl, by rw [hT]; exact RW.out, HB.out⟩
end Go.Proofs.YtfkmolbcgnkfdaaDoor

/- The rows of an op's cover, as the document asks them. -/
namespace Go.Proofs.YtfkmolbcgnkfdaaDoor
open Go.RowKit
attribute [local go_sem] Oper.semAt_some
set_option maxRecDepth 100000
set_option maxHeartbeats 1000000
/-- the rows; are they off; is there a cover -/
def rowsS (op : Int) (n : Nat) : List ByteArray × Bool × Bool :=
  if op = 0 then ([], false, decide (n = 0))
  else if op = 1 then ([noneT], false, decide (n = 0))
  else if op = 2 then ([⟨#[49]⟩], false, decide (n = 1))
  else if op = 3 then ([⟨#[48]⟩], false, decide (n = 1))
  else if op = 4 then ([allF 49 n], false, decide (2 ≤ n ∧ n ≤ 8))
  else if op = 5 then ([allF 49 n], true, decide (2 ≤ n ∧ n ≤ 8))
  else if op = 6 then ([allF 48 n], true, decide (2 ≤ n ∧ n ≤ 8))
  else if op = 7 then ([allF 48 n], false, decide (2 ≤ n ∧ n ≤ 8))
  else if n < 2 ∨ 8 < n then ([], false, false)
  else if op = 8 then (parL n 1 (2 ^ n), false, true)
  else (parL n 0 (2 ^ n), false, decide (op = 9))
theorem row_one (w : World) (s : ByteArray) : (w.alloc (.cells #[.string s] 9)).ownsRow w.heap.size 9 1 (.slice (some ⟨w.heap.size, 0, none⟩) 1 1) [s].length ([s].flatMap stc) :=
  World.ownsRow_lit w #[.string s] 1 (Nat.le_refl _) (by unfold maxLen; omega) rfl
theorem rows_any (op : Int) (n : Nat) (hop : 0 ≤ op ∧ op ≤ 9) (hn : n ≤ 8) (w : World) : Calls Tryd.prog 28 #[.int .i64 op, .int .i64 (n : Int)] w fun e w' =>
    ∃ V, e = .returned (.tuple #[V, .bool (rowsS op n).2.1, .bool (rowsS op n).2.2]) ∧ w'.ownsRow w.heap.size 9 1 V (rowsS op n).1.length ((rowsS op n).1.flatMap stc) ∧ Below w.heap.size w w' := by
  have hnI : (n : Int) ≤ 8 := by omega
  obtain rfl | rfl | rfl | rfl | rfl | rfl | rfl | rfl | rfl | rfl : op = 0 ∨ op = 1 ∨ op = 2 ∨ op = 3 ∨ op = 4 ∨ op = 5 ∨ op = 6 ∨ op = 7 ∨ op = 8 ∨ op = 9 := by omega
  · by_cases e : n = 0
    · subst e
      go_enter Tryd.func28, Tryd.ntmps28
      go_wp2
      refine bodyPost_ret (results_tmp3 rfl _ _ _) rfl ?_
      exact ⟨_, rfl, World.ownsRow_nil _ _ _ _, Below.refl _ _⟩
    · have e' : ((n : Int) == 0) = false := by rw [beq_eq_false_iff_ne]; omega
      rw [show (rowsS 0 n) = ([], false, false) from by simp [rowsS, e]]
      go_enter Tryd.func28, Tryd.ntmps28
      go_wp2
      refine bodyPost_ret (results_tmp3 rfl _ _ _) rfl ?_
      exact ⟨_, rfl, World.ownsRow_nil _ _ _ _, Below.refl _ _⟩
  · by_cases e : n = 0
    · subst e
      go_enter Tryd.func28, Tryd.ntmps28
      go_wp2
      refine bodyPost_ret (results_tmp3 rfl _ _ _) rfl ?_
      exact ⟨_, rfl, row_one w noneT, below_one _ _⟩
    · have e' : ((n : Int) == 0) = false := by rw [beq_eq_false_iff_ne]; omega
      rw [show (rowsS 1 n) = ([noneT], false, false) from by simp [rowsS, e]]
      go_enter Tryd.func28, Tryd.ntmps28
      go_wp2
      refine bodyPost_ret (results_tmp3 rfl _ _ _) rfl ?_
      exact ⟨_, rfl, row_one w noneT, below_one _ _⟩
  · by_cases e : n = 1
    · subst e
      go_enter Tryd.func28, Tryd.ntmps28
      go_wp2
      refine bodyPost_ret (results_tmp3 rfl _ _ _) rfl ?_
      exact ⟨_, rfl, row_one w ⟨#[49]⟩, below_one _ _⟩
    · have e' : ((n : Int) == 1) = false := by rw [beq_eq_false_iff_ne]; omega
      rw [show (rowsS 2 n) = ([⟨#[49]⟩], false, false) from by simp [rowsS, e]]
      go_enter Tryd.func28, Tryd.ntmps28
      go_wp2
      refine bodyPost_ret (results_tmp3 rfl _ _ _) rfl ?_
      exact ⟨_, rfl, row_one w ⟨#[49]⟩, below_one _ _⟩
  · by_cases e : n = 1
    · subst e
      go_enter Tryd.func28, Tryd.ntmps28
      go_wp2
      refine bodyPost_ret (results_tmp3 rfl _ _ _) rfl ?_
      exact ⟨_, rfl, row_one w ⟨#[48]⟩, below_one _ _⟩
    · have e' : ((n : Int) == 1) = false := by rw [beq_eq_false_iff_ne]; omega
      rw [show (rowsS 3 n) = ([⟨#[48]⟩], false, false) from by simp [rowsS, e]]
      go_enter Tryd.func28, Tryd.ntmps28
      go_wp2
      refine bodyPost_ret (results_tmp3 rfl _ _ _) rfl ?_
      exact ⟨_, rfl, row_one w ⟨#[48]⟩, below_one _ _⟩
  · by_cases e : 2 ≤ n
    · rw [show (rowsS 4 n) = ([allF 49 n], false, true) from by simp [rowsS, e, hn]]
      have e' : (2 : Int) ≤ (n : Int) := by omega
      go_enter Tryd.func28, Tryd.ntmps28
      go_wp2_with fail
      refine (all_any 49 n hn _).mono ?_
      rintro e w' ⟨rfl, rfl⟩
      go_wp2
      refine bodyPost_ret (results_tmp3 rfl _ _ _) rfl ?_
      exact ⟨_, rfl, row_one _ (allF 49 n), below_one _ _⟩
    · rw [show (rowsS 4 n) = ([allF 49 n], false, false) from by simp [rowsS, e]]
      have e' : decide ((2 : Int) ≤ (n : Int)) = false := decide_eq_false (by omega)
      go_enter Tryd.func28, Tryd.ntmps28
      go_wp2_with fail
      refine (all_any 49 n hn _).mono ?_
      rintro e w' ⟨rfl, rfl⟩
      go_wp2
      refine bodyPost_ret (results_tmp3 rfl _ _ _) rfl ?_
      exact ⟨_, rfl, row_one _ (allF 49 n), below_one _ _⟩
  · by_cases e : 2 ≤ n
    · rw [show (rowsS 5 n) = ([allF 49 n], true, true) from by simp [rowsS, e, hn]]
      have e' : (2 : Int) ≤ (n : Int) := by omega
      go_enter Tryd.func28, Tryd.ntmps28
      go_wp2_with fail
      refine (all_any 49 n hn _).mono ?_
      rintro e w' ⟨rfl, rfl⟩
      go_wp2
      refine bodyPost_ret (results_tmp3 rfl _ _ _) rfl ?_
      exact ⟨_, rfl, row_one _ (allF 49 n), below_one _ _⟩
    · rw [show (rowsS 5 n) = ([allF 49 n], true, false) from by simp [rowsS, e]]
      have e' : decide ((2 : Int) ≤ (n : Int)) = false := decide_eq_false (by omega)
      go_enter Tryd.func28, Tryd.ntmps28
      go_wp2_with fail
      refine (all_any 49 n hn _).mono ?_
      rintro e w' ⟨rfl, rfl⟩
      go_wp2
      refine bodyPost_ret (results_tmp3 rfl _ _ _) rfl ?_
      exact ⟨_, rfl, row_one _ (allF 49 n), below_one _ _⟩
  · by_cases e : 2 ≤ n
    · rw [show (rowsS 6 n) = ([allF 48 n], true, true) from by simp [rowsS, e, hn]]
      have e' : (2 : Int) ≤ (n : Int) := by omega
      go_enter Tryd.func28, Tryd.ntmps28
      go_wp2_with fail
      refine (all_any 48 n hn _).mono ?_
      rintro e w' ⟨rfl, rfl⟩
      go_wp2
      refine bodyPost_ret (results_tmp3 rfl _ _ _) rfl ?_
      exact ⟨_, rfl, row_one _ (allF 48 n), below_one _ _⟩
    · rw [show (rowsS 6 n) = ([allF 48 n], true, false) from by simp [rowsS, e]]
      have e' : decide ((2 : Int) ≤ (n : Int)) = false := decide_eq_false (by omega)
      go_enter Tryd.func28, Tryd.ntmps28
      go_wp2_with fail
      refine (all_any 48 n hn _).mono ?_
      rintro e w' ⟨rfl, rfl⟩
      go_wp2
      refine bodyPost_ret (results_tmp3 rfl _ _ _) rfl ?_
      exact ⟨_, rfl, row_one _ (allF 48 n), below_one _ _⟩
  · by_cases e : 2 ≤ n
    · rw [show (rowsS 7 n) = ([allF 48 n], false, true) from by simp [rowsS, e, hn]]
      have e' : (2 : Int) ≤ (n : Int) := by omega
      go_enter Tryd.func28, Tryd.ntmps28
      go_wp2_with fail
      refine (all_any 48 n hn _).mono ?_
      rintro e w' ⟨rfl, rfl⟩
      go_wp2
      refine bodyPost_ret (results_tmp3 rfl _ _ _) rfl ?_
      exact ⟨_, rfl, row_one _ (allF 48 n), below_one _ _⟩
    · rw [show (rowsS 7 n) = ([allF 48 n], false, false) from by simp [rowsS, e]]
      have e' : decide ((2 : Int) ≤ (n : Int)) = false := decide_eq_false (by omega)
      go_enter Tryd.func28, Tryd.ntmps28
      go_wp2_with fail
      refine (all_any 48 n hn _).mono ?_
      rintro e w' ⟨rfl, rfl⟩
      go_wp2
      refine bodyPost_ret (results_tmp3 rfl _ _ _) rfl ?_
      exact ⟨_, rfl, row_one _ (allF 48 n), below_one _ _⟩
  · by_cases e : n < 2
    · rw [show (rowsS 8 n) = ([], false, false) from by simp [rowsS, e]]
      have e' : (n : Int) < 2 := by omega
      go_enter Tryd.func28, Tryd.ntmps28
      go_wp2
      refine bodyPost_ret (results_tmp3 rfl _ _ _) rfl ?_
      exact ⟨_, rfl, World.ownsRow_nil _ _ _ _, Below.refl _ _⟩
    · rw [show (rowsS 8 n) = (parL n 1 (2 ^ n), false, true) from by simp [rowsS, e]; omega]
      have e' : decide ((n : Int) < 2) = false := decide_eq_false (by omega)
      have e2 : decide ((8 : Int) < (n : Int)) = false := decide_eq_false (by omega)
      go_enter Tryd.func28, Tryd.ntmps28
      go_wp2_with fail
      refine (odd_any n 1 hn _).mono ?_
      rintro e w1 ⟨V, rfl, r1, b1⟩
      have R1 := Lib.hid r1
      have B1 := Lib.hid b1
      clear r1 b1
      go_wp2
      refine bodyPost_ret (results_tmp3 rfl _ _ _) rfl ?_
      exact ⟨_, rfl, R1.out, B1.out⟩
  · by_cases e : n < 2
    · rw [show (rowsS 9 n) = ([], false, false) from by simp [rowsS, e]]
      have e' : (n : Int) < 2 := by omega
      go_enter Tryd.func28, Tryd.ntmps28
      go_wp2
      refine bodyPost_ret (results_tmp3 rfl _ _ _) rfl ?_
      exact ⟨_, rfl, World.ownsRow_nil _ _ _ _, Below.refl _ _⟩
    · rw [show (rowsS 9 n) = (parL n 0 (2 ^ n), false, true) from by simp [rowsS, e]; omega]
      have e' : decide ((n : Int) < 2) = false := decide_eq_false (by omega)
      have e2 : decide ((8 : Int) < (n : Int)) = false := decide_eq_false (by omega)
      go_enter Tryd.func28, Tryd.ntmps28
      go_wp2_with fail
      refine (odd_any n 0 hn _).mono ?_
      rintro e w1 ⟨V, rfl, r1, b1⟩
      have R1 := Lib.hid r1
      have B1 := Lib.hid b1
      clear r1 b1
      go_wp2
      refine bodyPost_ret (results_tmp3 rfl _ _ _) rfl ?_
      exact ⟨_, rfl, R1.out, B1.out⟩
end Go.Proofs.YtfkmolbcgnkfdaaDoor

/- The iterator of a cover's rows is made. -/
namespace Go.Proofs.YtfkmolbcgnkfdaaDoor
open Go.RowKit
attribute [local go_sem] Oper.semAt_some
set_option maxRecDepth 100000
theorem mkcover (op n : Int) (w : World) :
    Calls Tryd.prog 88 #[.int .i64 op, .int .i64 n] w fun e w' => e = .returned (.func (.func 98) #[] #[.pointer (some ⟨w.heap.size, 0, none⟩), .pointer (some ⟨w.heap.size + 1, 0, none⟩)]) ∧ w' = (w.alloc (.cells #[.int .i64 op] 37)).alloc (.cells #[.int .i64 n] 3) := by
  have hmf : ∀ (fn : Fn) (first cap : Array Value) (w : World), (Instr.makeFunc fn first cap).run Tryd.prog w = .ok (.func fn first cap) w := fun _ _ _ _ => rfl
  go_enter Tryd.func88, Tryd.ntmps88
  go_wp2
  go_ret
  exact ⟨rfl, rfl⟩
end Go.Proofs.YtfkmolbcgnkfdaaDoor

/- A range over a function, as Range has it, but the rounds' level is a letter of its own: so the iterator may hand its yield on to a function that it calls. -/
namespace Go.Proofs.YtfkmolbcgnkfdaaDoor
open Go.RowKit
/-- the iterator's contract: whatever the rounds are, if they take what has come, and keep what it needs -/
def Iter2 {α : Type} (F : Fence) (n m : Nat) (P : Program) (gf : Nat) (lb : Array Value) (encs : α → Array Value) (R : Nat → Prop) (Kp : World → World → Prop) (S Sp Pf : List α → Prop) (N : Nat) (w : World) : Prop :=
  ∀ (l : Nat) (J Jx : List α → World → Prop) (W : World), Below w.heap.size w W → Stands R J → (∀ pre W1, J pre W1 → pre.length < N) →
    (∀ pre x W1, J pre W1 → pre.length < N → Pf (pre ++ [x]) → YieldAt F m P l (encs x) W1 fun e W' =>
      (e = .returned (.bool true) ∧ J (pre ++ [x]) W' ∧ Kp W1 W') ∨ (e = .returned (.bool false) ∧ Jx (pre ++ [x]) W')) →
    J [] W →
    CallsIn F n P gf (#[.func (.yield l) #[] #[]] ++ lb) W fun e W' => (∃ v, e = .returned v) ∧ ((∃ xs, S xs ∧ J xs W') ∨ (∃ pre, Sp pre ∧ Jx pre W'))

variable {F : Fence} {n : Nat} {P : Program}
theorem range_over2 {α : Type} {g : Operand} {ps : Array Tmp} {assign body : Code} {Q : Exit → Act → World → Prop} {a : Act} {w : World}
    (hro : F.round = none) {m : Nat} (h1 : 1 ≤ n) {gf : Nat} {lb : Array Value} (hg : a.eval g = .func (.func gf) #[] lb) (hFg : F.fn gf) (eg : ∀ args w, (callFunc gf args).run P w = .ok (.enter gf args) w)
    {encs : α → Array Value} {R : Nat → Prop} {Kp : World → World → Prop} {S Sp Pf : List α → Prop} {N : Nat} (hit : Iter2 F (n - 1) m P gf lb encs R Kp S Sp Pf N w)
    (hR : ∀ r, R r → r ≠ w.heap.size ∧ r ≠ w.heap.size + 1)
    (hKt : ∀ {A B C : World}, Kp A B → Kp B C → Kp A C) (hKb : ∀ (W : World) (l : Nat) (o : Obj), w.heap.size ≤ l → Kp W (W.putObj l o)) (hps : ∀ x, (encs x).size = ps.size)
    (I : List α → World → Prop) (Ix : Code → List α → World → Prop) (hI : OwnFrom w.heap.size I) (hIN : ∀ pre W1, I pre W1 → pre.length < N) (hIR : Stands R I) (hIx : ∀ c, OwnFrom w.heap.size (Ix c)) (h0 : I [] w) (a₁ : α → Act)
    (hassign : ∀ (l : Nat) (x : α) (W : World) (K : Act → World → Prop), K (a₁ x) W →
      assign.wpIn (F.inRound l) m P (Exit.then K (fun _ _ _ => False)) { tmps := (ps.zip (encs x)).foldl (fun t (p, v) => t.setIfInBounds p v) a.tmps, defers := [] } W)
    (hbody : ∀ (l : Nat) (pre : List α) (x : α) (W : World), w.heap.size ≤ W.heap.size → I pre W → pre.length < N → Pf (pre ++ [x]) → body.wpIn (F.inRound l) m P (ownPostG w.heap.size Kp I Ix (pre ++ [x]) W) (a₁ x) W)
    (hdone : ∀ (D : Nat) (xs : List α) (W : World), w.heap.size ≤ D → S xs → I xs W → W.heap[D]? = some (.deferred (some [])) → Q .normal { a with defers := { target := .collected D, args := #[] } :: a.defers } W)
    (hstop : ∀ (D : Nat) (c : Code) (pre : List α) (W : World), w.heap.size ≤ D → Sp pre → Ix c pre W → W.heap[D]? = some (.deferred (some [])) → c.wpIn F n P Q { a with defers := { target := .collected D, args := #[] } :: a.defers } W) :
    (Code.rangeFunc g ps assign body).wpIn F n P Q a w := by
  refine wpIn_rangeFunc fun fn hfn => ?_
  rw [hro]
  -- D: the block of the rounds' deferred calls; L: the loop's record
  generalize hD : w.heap.size = D at *
  obtain ⟨rec, hrec⟩ : ∃ rec : LoopState → Option Code → Loop, ∀ st pe, rec st pe = { state := st, pending := pe, fn, tmps := a.tmps, params := ps, assign, body, defers := D } := ⟨fun st pe => { state := st, pending := pe, fn, tmps := a.tmps, params := ps, assign, body, defers := D }, fun _ _ => rfl⟩
  have hW1 := run_enterLoop_outer (P := P) (w := w) fn a.tmps ps assign body
  rw [hD, ← hrec] at hW1
  have hKd : (w.alloc (.deferred (some []))).heap[D]? = some (.deferred (some [])) := by rw [← hD]; exact World.alloc_heap_new w _
  have hsz : (w.alloc (.deferred (some []))).heap.size = D + 1 := by rw [World.size_alloc, hD]
  have hL1 : ((w.alloc (.deferred (some []))).alloc (.loop (rec .ready none))).heap[D + 1]? = some (.loop (rec .ready none)) := by
    rw [← hsz]; exact World.alloc_heap_new _ _
  have hK1 : ((w.alloc (.deferred (some []))).alloc (.loop (rec .ready none))).heap[D]? = some (.deferred (some [])) :=
    (Below.heap_alloc _ _ _ (by rw [hsz]; omega)).trans hKd
  have hI1 : I [] ((w.alloc (.deferred (some []))).alloc (.loop (rec .ready none))) := hI.alloc _ (hI.alloc _ h0)
  have hb1 : Below D w ((w.alloc (.deferred (some []))).alloc (.loop (rec .ready none))) :=
    ((Below.refl _ w).alloc (by omega) _).alloc (by omega) _
  have hB0 := hsz
  have hsz1 : ((w.alloc (.deferred (some []))).alloc (.loop (rec .ready none))).heap.size = D + 2 := by rw [World.size_alloc, hsz]
  generalize hWe : (w.alloc (.deferred (some []))).alloc (.loop (rec .ready none)) = W1 at *
  refine ⟨D + 1, [{ target := .collected D, args := #[] }], W1, { target := .fn (.func gf) lb, args := #[.func (.yield (D + 1)) #[] #[]] }, W1, gf,
    #[.func (.yield (D + 1)) #[] #[]] ++ lb, W1, hW1, ?_, ?_, ?_, fun _ => h1, ?_⟩
  · simp only [resolve, hg]; simp [go_sem]
  · intro f' hf'; simp [Target.leads] at hf'; subst hf'; exact hFg
  · simp [invoke, go_sem, eg]
  -- the two blocks of book-keeping, beside what the caller says
  have two : ∀ {st : LoopState} {pe : Option Code} {A B : World} {row : Option Nat}, A.grownBy B row → (∀ r, row = some r → R r) → A.heap[D + 1]? = some (.loop (rec st pe)) → A.heap[D]? = some (.deferred (some [])) →
      B.heap[D + 1]? = some (.loop (rec st pe)) ∧ B.heap[D]? = some (.deferred (some [])) := fun hg' hr hl hk =>
    ⟨grown_keeps hg' hl (fun e => (hR _ (hr _ e)).2 rfl), grown_keeps hg' hk (fun e => (hR _ (hr _ e)).1 rfl)⟩
  have hcall := hit (D + 1)
    (fun pre W => I pre W ∧ W.heap[D + 1]? = some (.loop (rec .ready none)) ∧ W.heap[D]? = some (.deferred (some [])))
    (fun pre W => ∃ c, Ix c pre W ∧ W.heap[D + 1]? = some (.loop (rec .done (some c))) ∧ W.heap[D]? = some (.deferred (some [])))
    W1 (by rw [hD]; exact hb1)
    (fun xs A B row hs hg' hr => ⟨hIR xs A B row hs.1 hg' hr, two hg' hr hs.2.1 hs.2.2⟩)
    (fun pre W1 h => hIN pre W1 h.1) ?_ ⟨hI1, hL1, hK1⟩
  · refine hcall.mono ?_
    rintro e W2 ⟨⟨v, rfl⟩, (⟨xs, hS, hi, hl, hk⟩ | ⟨pre, hSp, c, hi, hl, hk⟩)⟩
    · have he := run_endLoop (P := P) hl (by rw [hrec]; simp)
      rw [show (rec .ready none).pending = none from by rw [hrec]] at he
      exact ⟨none, _, he, hdone D xs _ (Nat.le_refl _) hS (hI.putObj _ hi (by omega) hl rfl) ((World.putObj_heap_other (by omega)).trans hk)⟩
    · have he := run_endLoop (P := P) hl (by rw [hrec]; simp)
      rw [show (rec .done (some c)).pending = some c from by rw [hrec]] at he
      exact ⟨some c, _, he, hstop D c pre _ (Nat.le_refl _) hSp ((hIx c).putObj _ hi (by omega) hl rfl) ((World.putObj_heap_other (by omega)).trans hk)⟩
  -- one round
  rintro pre x W ⟨hi, hl, hk⟩ hlen hpf
  have hlt : D + 1 < W.heap.size := (Array.getElem?_eq_some_iff.1 hl).1
  have hy := run_yield (P := P) (args := encs x) hl (by rw [hrec]; exact hps x)
  rw [hrec] at hy
  have hbr := run_beginRound (P := P) hl (by rw [hrec])
  refine ⟨fn, _, assign, body, hy, roundIn_of_wpIn hfn (hassign _ x W _ ⟨_, hbr, ?_⟩)⟩
  have hbusy : ({ rec .ready none with state := .busy } : Loop) = rec .busy none := by rw [hrec, hrec]
  rw [hbusy]
  have hl2 : (W.putObj (D + 1) (.loop (rec .busy none))).heap[D + 1]? = some (.loop (rec .busy none)) := World.putObj_heap_same hlt
  have hk2 : (W.putObj (D + 1) (.loop (rec .busy none))).heap[D]? = some (.deferred (some [])) := (World.putObj_heap_other (by omega)).trans hk
  have hw2 : Kp W (W.putObj (D + 1) (.loop (rec .busy none))) := hKb _ _ _ (by omega)
  refine wpIn_mono (hbody _ pre x _ (by simp; omega) (hI.putObj _ hi (by omega) hl rfl) hlen hpf) ?_
  -- how the round's end leaves the record
  have fin : ∀ (jump : Option Code) (W3 : World), KeepsFrom D (W.putObj (D + 1) (.loop (rec .busy none))) W3 →
      ∃ W4, (Instr.endRound (D + 1) jump).run P W3 = .ok (.bool jump.isNone) W4 ∧ W4 = W3.putObj (D + 1) (.loop (rec (if jump.isNone then .ready else .done) jump)) ∧ W3.heap[D + 1]? = some (.loop (rec .busy none)) ∧
        W4.heap[D + 1]? = some (.loop (rec (if jump.isNone then .ready else .done) jump)) ∧ W4.heap[D]? = some (.deferred (some [])) := fun jump W3 hk3 => by
    have hl3 := hk3.same _ _ (by omega) hl2 rfl
    have he := run_endRound (P := P) jump hl3
    have hend : ({ rec .busy none with state := if jump.isNone then .ready else .done, pending := jump } : Loop) = rec (if jump.isNone then .ready else .done) jump := by rw [hrec, hrec]
    rw [hend] at he
    exact ⟨_, he, rfl, hl3, World.putObj_heap_same (Array.getElem?_eq_some_iff.1 hl3).1, (World.putObj_heap_other (by omega)).trans (hk3.same _ _ (Nat.le_refl _) hk2 rfl)⟩
  have left : ∀ (c : Code) (W3 : World), KeepsFrom D (W.putObj (D + 1) (.loop (rec .busy none))) W3 → Ix c (pre ++ [x]) W3 →
      ∃ v W4, (Instr.endRound (D + 1) (some c)).run P W3 = .ok v W4 ∧ ((Ending.returned v = .returned (.bool true) ∧ (I (pre ++ [x]) W4 ∧ W4.heap[D + 1]? = some (.loop (rec .ready none)) ∧ W4.heap[D]? = some (.deferred (some []))) ∧ Kp W W4) ∨
        (Ending.returned v = .returned (.bool false) ∧ ∃ c, Ix c (pre ++ [x]) W4 ∧ W4.heap[D + 1]? = some (.loop (rec .done (some c))) ∧ W4.heap[D]? = some (.deferred (some [])))) := fun c W3 hk3 hx3 => by
    obtain ⟨W4, hr, rfl, hl3, hl4, hk4⟩ := fin (some c) W3 hk3
    exact ⟨_, _, hr, .inr ⟨rfl, c, (hIx c).putObj _ hx3 (by omega) hl3 rfl, hl4, hk4⟩⟩
  rintro e a3 W3 hp
  cases e with
  | normal =>
    obtain ⟨hk3, hkp3, hi3⟩ := hp
    obtain ⟨W4, hr, rfl, hl3, hl4, hk4⟩ := fin none W3 hk3
    exact ⟨_, _, hr, .inl ⟨rfl, ⟨hI.putObj _ hi3 (by omega) hl3 rfl, hl4, hk4⟩, hKt (hKt hw2 hkp3) (hKb _ _ _ (by omega))⟩⟩
  | ret => exact left _ W3 hp.1 hp.2
  | exit id => exact left _ W3 hp.1 hp.2
  | goto t => exact left _ W3 hp.1 hp.2
  | panic ch => exact hp.elim
  | outgrown => exact hp.elim
end Go.Proofs.YtfkmolbcgnkfdaaDoor

/- The rows of one parity are told, one by one. -/
namespace Go.Proofs.YtfkmolbcgnkfdaaDoor
open Go.RowKit Go.Shelf
attribute [local go_sem] Oper.semAt_some
set_option maxRecDepth 100000
set_option maxHeartbeats 2000000
theorem pcF_le (x : Nat) : pcF x ≤ 8 := by
  unfold pcF
  omega
theorem par_in (l n p m : Nat) (W : World) (hn : n ≤ 8) (J Jx : List ByteArray → World → Prop)
    (hJ : ∀ xs A B, J xs A → Below A.heap.size A B → J xs B)
    (hY : ∀ pre x W1, J pre W1 → (∃ k, k ≤ 2 ^ n ∧ pre ++ [x] = parL n p k) → YieldAt Fence.wide m Tryd.prog l #[.string x] W1 fun e W' =>
      (e = .returned (.bool true) ∧ J (pre ++ [x]) W') ∨ (e = .returned (.bool false) ∧ Jx (pre ++ [x]) W'))
    (h0 : J [] W) :
    CallsIn Fence.wide (m + 1) Tryd.prog 100 #[.int .i64 (n : Int), .int .i64 (p : Int), .func (.yield l) #[] #[]] W fun e W' => (∃ v, e = .returned v) ∧
      (J (parL n p (2 ^ n)) W' ∨ ∃ k, k ≤ 2 ^ n ∧ Jx (parL n p k) W') := by
  have HY := Lib.hid hY
  have HJ := Lib.hid hJ
  obtain ⟨T, hT⟩ : ∃ T, 2 ^ n = T := ⟨_, rfl⟩
  have hT2 : T ≤ 256 := by rw [← hT]; exact Nat.le_trans (Nat.pow_le_pow_right (by decide) hn) (by decide)
  have hTi : (2 : Int) ^ n = (T : Int) := by rw [← hT]; simp
  clear hY hJ
  refine callsIn_of_wp Tryd.func100 rfl trivial ?_ rfl
  simp only [Tryd.ntmps100, List.size_toArray, List.length_cons, List.length_nil, Nat.reduceAdd, Nat.reduceSub, Array.replicate_succ, Array.replicate_zero, List.push_toArray, List.append_toArray, List.nil_append, List.cons_append]
  gi_wp2
  gi_loopw [9] (fun i wr => ∃ k : Nat, k ≤ T ∧ i = .int .i64 (k : Int) ∧ J (parL n p k) wr) (fun i _ => T - (intOf i).toNat)
  case atStart => exact ⟨0, Nat.zero_le _, rfl, h0⟩
  case round =>
    obtain ⟨k, hk, rfl, hJ1⟩ := hrel
    have HJ1 := Lib.hid hJ1
    clear hJ1
    by_cases hlt : k < T
    · have hlt' : (k : Int) < (T : Int) := by omega
      gi_wp2_with fail
      refine ⟨trivial, (callsIn_wide.2 (ones_any k (by omega) _)).mono ?_⟩
      rintro e w' ⟨rfl, rfl⟩
      have hcl := pcF_le k
      by_cases e : pcF k % 2 = p
      · have he : (pcF k : Int) % 2 = (p : Int) := by omega
        have HL := Lib.hid (parL_yes n p k (by unfold parP; rw [beq_iff_eq]; exact e))
        clear e
        generalize pcF k = cc at he hcl ⊢
        gi_wp2_with fail
        refine ⟨trivial, (callsIn_wide.2 (rowOf_any k n (by omega) hn _)).mono ?_⟩
        rintro e w2 ⟨rfl, b2⟩
        have hJ2 := HJ.out _ _ _ HJ1.out b2
        obtain ⟨fn, tmps, assign, body, hyr, hR⟩ := HY.out (parL n p k) (rowF k n) w2 hJ2 ⟨k + 1, by omega, HL.out.symm⟩
        have HR := Lib.hid hR
        clear hJ2 b2 hR HJ1
        gi_wp2_with fail
        refine HR.out.mono ?_
        rintro e W3 (⟨rfl, hJ3⟩ | ⟨rfl, hJx3⟩)
        · have hJ4 := Lib.hid (show J (parL n p (k + 1)) W3 by rw [HL.out]; exact hJ3)
          clear hJ3
          gi_wp2
          refine ⟨⟨k + 1, by omega, by go_num, hJ4.out⟩, ?_⟩
          simp [intOf]; omega
        · have hJ4 := Lib.hid (show Jx (parL n p (k + 1)) W3 by rw [HL.out]; exact hJx3)
          clear hJx3
          gi_wp2
          refine bodyPost_ret (results_none rfl _ _ _) rfl ?_
          exact ⟨⟨_, rfl⟩, .inr ⟨k + 1, by omega, hJ4.out⟩⟩
      · have he : ((pcF k : Int) % 2 == (p : Int)) = false := by rw [beq_eq_false_iff_ne]; omega
        have HL := Lib.hid (parL_no n p k (by unfold parP; rw [beq_eq_false_iff_ne]; exact e))
        clear e
        generalize pcF k = cc at he hcl ⊢
        gi_wp2
        refine ⟨trivial, ?_⟩
        go_at_K
        gi_wp2
        refine ⟨fun f h => (by cases h), ?_⟩
        go_at_K
        gi_wp2
        refine ⟨⟨k + 1, by omega, by go_num, by rw [HL.out]; exact HJ1.out⟩, ?_⟩
        simp [intOf]; omega
    · have hge : (T : Int) ≤ (k : Int) := by omega
      obtain rfl : k = T := by omega
      gi_wp2
      go_end0
      exact ⟨⟨_, rfl⟩, .inl (by rw [hT]; exact HJ1.out)⟩
end Go.Proofs.YtfkmolbcgnkfdaaDoor

/- The rows of an op's cover are told, one by one. -/
namespace Go.Proofs.YtfkmolbcgnkfdaaDoor
open Go.RowKit Go.Shelf
attribute [local go_sem] Oper.semAt_some
set_option maxRecDepth 100000
set_option maxHeartbeats 2000000
def rowsL (op : Int) (n : Nat) : List ByteArray :=
  if op = 1 ∨ op = 2 ∨ op = 4 ∨ op = 5 then [allF 49 n] else if op = 3 ∨ op = 6 ∨ op = 7 then [allF 48 n] else if op = 8 then parL n 1 (2 ^ n) else if op = 9 then parL n 0 (2 ^ n) else []
theorem repeat_one (c : UInt8) : ∀ n, Lib.repeatL [c] n = List.replicate n c
  | 0 => rfl
  | n + 1 => by rw [List.replicate_succ, ← repeat_one c n]; rfl
theorem repeat_ex (c : UInt8) (n : Nat) (hn : n ≤ 8) (w : World) : Calls Tryd.prog 99 #[.string ⟨#[c]⟩, .int .i64 (n : Int)] w fun e w' => e = .returned (.string (allF c n)) ∧ Below w.heap.size w w' := by
  refine (Tryd.strings_Repeat ⟨#[c]⟩ n w (by omega) (by show 1 * n ≤ _; omega)).mono ?_
  rintro e w' ⟨rfl, hb⟩
  refine ⟨?_, hb⟩
  rw [show ((⟨#[c]⟩ : ByteArray).data.toList) = [c] from rfl, repeat_one]
  rfl
theorem parL_pre (n p a d : Nat) : parL n p a <+: parL n p (a + d) := by
  induction d with
  | zero => exact List.prefix_refl _
  | succ d ih =>
    rw [← Nat.add_assoc]
    cases h : parP p (a + d)
    · rw [parL_no n p _ h]; exact ih
    · rw [parL_yes n p _ h]; exact ih.trans (List.prefix_append _ _)
theorem parL_pre' (n p a b : Nat) (h : a ≤ b) : parL n p a <+: parL n p b := by
  obtain ⟨d, rfl⟩ := Nat.exists_eq_add_of_le h
  exact parL_pre n p a d
theorem cover_in (l : Nat) (op : Int) (n B1 B2 : Nat) (W : World) (hop : 0 ≤ op ∧ op ≤ 9) (hn : n ≤ 8) (J Jx : List ByteArray → World → Prop)
    (hJ : ∀ xs A B, J xs A → Below A.heap.size A B → J xs B)
    (hY : ∀ pre x W1, J pre W1 → pre ++ [x] <+: rowsL op n → YieldAt Fence.wide 3 Tryd.prog l #[.string x] W1 fun e W' =>
      (e = .returned (.bool true) ∧ J (pre ++ [x]) W') ∨ (e = .returned (.bool false) ∧ Jx (pre ++ [x]) W'))
    (c1 : W.cell? ⟨B1, 0, none⟩ = some (.int .i64 op)) (c2 : W.cell? ⟨B2, 0, none⟩ = some (.int .i64 (n : Int))) (h0 : J [] W) :
    CallsIn Fence.wide 4 Tryd.prog 98 #[.func (.yield l) #[] #[], .pointer (some ⟨B1, 0, none⟩), .pointer (some ⟨B2, 0, none⟩)] W fun e W' => (∃ v, e = .returned v) ∧
      (J (rowsL op n) W' ∨ ∃ pre, pre <+: rowsL op n ∧ Jx pre W') := by
  have HJ := Lib.hid hJ
  have H0 := Lib.hid h0
  clear hJ h0
  obtain rfl | rfl | rfl | rfl | rfl | rfl | rfl | rfl | rfl | rfl : op = 0 ∨ op = 1 ∨ op = 2 ∨ op = 3 ∨ op = 4 ∨ op = 5 ∨ op = 6 ∨ op = 7 ∨ op = 8 ∨ op = 9 := by omega
  · have hr : rowsL 0 n = [] := by simp [rowsL]
    rw [hr] at hY ⊢
    have HY := Lib.hid hY
    clear hY hr
    refine callsIn_of_wp Tryd.func98 rfl trivial ?_ rfl
    simp only [Tryd.ntmps98, List.size_toArray, List.length_cons, List.length_nil, Nat.reduceAdd, Nat.reduceSub, Array.replicate_succ, Array.replicate_zero, List.push_toArray, List.append_toArray, List.nil_append, List.cons_append]
    gi_wp2
    go_end0
    exact ⟨⟨_, rfl⟩, .inl H0.out⟩
  · have hr : rowsL 1 n = [allF 49 n] := by simp [rowsL]
    rw [hr] at hY ⊢
    have HY := Lib.hid hY
    clear hY hr
    refine callsIn_of_wp Tryd.func98 rfl trivial ?_ rfl
    simp only [Tryd.ntmps98, List.size_toArray, List.length_cons, List.length_nil, Nat.reduceAdd, Nat.reduceSub, Array.replicate_succ, Array.replicate_zero, List.push_toArray, List.append_toArray, List.nil_append, List.cons_append]
    gi_wp2_with fail
    refine ⟨trivial, (callsIn_wide.2 (repeat_ex 49 n hn _)).mono ?_⟩
    rintro e w2 ⟨rfl, b2⟩
    obtain ⟨fn, tmps, assign, body, hyr, hR⟩ := HY.out [] (allF 49 n) w2 (HJ.out _ _ _ H0.out b2) (List.prefix_refl _)
    have HR := Lib.hid hR
    clear b2 hR
    gi_wp2_with fail
    refine HR.out.mono ?_
    rintro e W3 (⟨rfl, hJ3⟩ | ⟨rfl, hJx3⟩)
    · have hJ4 := Lib.hid hJ3
      clear hJ3
      gi_wp2
      go_end0
      exact ⟨⟨_, rfl⟩, .inl hJ4.out⟩
    · have hJ4 := Lib.hid hJx3
      clear hJx3
      gi_wp2
      go_end0
      exact ⟨⟨_, rfl⟩, .inr ⟨_, List.prefix_refl _, hJ4.out⟩⟩
  · have hr : rowsL 2 n = [allF 49 n] := by simp [rowsL]
    rw [hr] at hY ⊢
    have HY := Lib.hid hY
    clear hY hr
    refine callsIn_of_wp Tryd.func98 rfl trivial ?_ rfl
    simp only [Tryd.ntmps98, List.size_toArray, List.length_cons, List.length_nil, Nat.reduceAdd, Nat.reduceSub, Array.replicate_succ, Array.replicate_zero, List.push_toArray, List.append_toArray, List.nil_append, List.cons_append]
    gi_wp2_with fail
    refine ⟨trivial, (callsIn_wide.2 (repeat_ex 49 n hn _)).mono ?_⟩
    rintro e w2 ⟨rfl, b2⟩
    obtain ⟨fn, tmps, assign, body, hyr, hR⟩ := HY.out [] (allF 49 n) w2 (HJ.out _ _ _ H0.out b2) (List.prefix_refl _)
    have HR := Lib.hid hR
    clear b2 hR
    gi_wp2_with fail
    refine HR.out.mono ?_
    rintro e W3 (⟨rfl, hJ3⟩ | ⟨rfl, hJx3⟩)
    · have hJ4 := Lib.hid hJ3
      clear hJ3
      gi_wp2
      go_end0
      exact ⟨⟨_, rfl⟩, .inl hJ4.out⟩
    · have hJ4 := Lib.hid hJx3
      clear hJx3
      gi_wp2
      go_end0
      exact ⟨⟨_, rfl⟩, .inr ⟨_, List.prefix_refl _, hJ4.out⟩⟩
  · have hr : rowsL 3 n = [allF 48 n] := by simp [rowsL]
    rw [hr] at hY ⊢
    have HY := Lib.hid hY
    clear hY hr
    refine callsIn_of_wp Tryd.func98 rfl trivial ?_ rfl
    simp only [Tryd.ntmps98, List.size_toArray, List.length_cons, List.length_nil, Nat.reduceAdd, Nat.reduceSub, Array.replicate_succ, Array.replicate_zero, List.push_toArray, List.append_toArray, List.nil_append, List.cons_append]
    gi_wp2_with fail
    refine ⟨trivial, (callsIn_wide.2 (repeat_ex 48 n hn _)).mono ?_⟩
    rintro e w2 ⟨rfl, b2⟩
    obtain ⟨fn, tmps, assign, body, hyr, hR⟩ := HY.out [] (allF 48 n) w2 (HJ.out _ _ _ H0.out b2) (List.prefix_refl _)
    have HR := Lib.hid hR
    clear b2 hR
    gi_wp2_with fail
    refine HR.out.mono ?_
    rintro e W3 (⟨rfl, hJ3⟩ | ⟨rfl, hJx3⟩)
    · have hJ4 := Lib.hid hJ3
      clear hJ3
      gi_wp2
      go_end0
      exact ⟨⟨_, rfl⟩, .inl hJ4.out⟩
    · have hJ4 := Lib.hid hJx3
      clear hJx3
      gi_wp2
      go_end0
      exact ⟨⟨_, rfl⟩, .inr ⟨_, List.prefix_refl _, hJ4.out⟩⟩
  · have hr : rowsL 4 n = [allF 49 n] := by simp [rowsL]
    rw [hr] at hY ⊢
    have HY := Lib.hid hY
    clear hY hr
    refine callsIn_of_wp Tryd.func98 rfl trivial ?_ rfl
    simp only [Tryd.ntmps98, List.size_toArray, List.length_cons, List.length_nil, Nat.reduceAdd, Nat.reduceSub, Array.replicate_succ, Array.replicate_zero, List.push_toArray, List.append_toArray, List.nil_append, List.cons_append]
    gi_wp2_with fail
    refine ⟨trivial, (callsIn_wide.2 (repeat_ex 49 n hn _)).mono ?_⟩
    rintro e w2 ⟨rfl, b2⟩
    obtain ⟨fn, tmps, assign, body, hyr, hR⟩ := HY.out [] (allF 49 n) w2 (HJ.out _ _ _ H0.out b2) (List.prefix_refl _)
    have HR := Lib.hid hR
    clear b2 hR
    gi_wp2_with fail
    refine HR.out.mono ?_
    rintro e W3 (⟨rfl, hJ3⟩ | ⟨rfl, hJx3⟩)
    · have hJ4 := Lib.hid hJ3
      clear hJ3
      gi_wp2
      go_end0
      exact ⟨⟨_, rfl⟩, .inl hJ4.out⟩
    · have hJ4 := Lib.hid hJx3
      clear hJx3
      gi_wp2
      go_end0
      exact ⟨⟨_, rfl⟩, .inr ⟨_, List.prefix_refl _, hJ4.out⟩⟩
  · have hr : rowsL 5 n = [allF 49 n] := by simp [rowsL]
    rw [hr] at hY ⊢
    have HY := Lib.hid hY
    clear hY hr
    refine callsIn_of_wp Tryd.func98 rfl trivial ?_ rfl
    simp only [Tryd.ntmps98, List.size_toArray, List.length_cons, List.length_nil, Nat.reduceAdd, Nat.reduceSub, Array.replicate_succ, Array.replicate_zero, List.push_toArray, List.append_toArray, List.nil_append, List.cons_append]
    gi_wp2_with fail
    refine ⟨trivial, (callsIn_wide.2 (repeat_ex 49 n hn _)).mono ?_⟩
    rintro e w2 ⟨rfl, b2⟩
    obtain ⟨fn, tmps, assign, body, hyr, hR⟩ := HY.out [] (allF 49 n) w2 (HJ.out _ _ _ H0.out b2) (List.prefix_refl _)
    have HR := Lib.hid hR
    clear b2 hR
    gi_wp2_with fail
    refine HR.out.mono ?_
    rintro e W3 (⟨rfl, hJ3⟩ | ⟨rfl, hJx3⟩)
    · have hJ4 := Lib.hid hJ3
      clear hJ3
      gi_wp2
      go_end0
      exact ⟨⟨_, rfl⟩, .inl hJ4.out⟩
    · have hJ4 := Lib.hid hJx3
      clear hJx3
      gi_wp2
      go_end0
      exact ⟨⟨_, rfl⟩, .inr ⟨_, List.prefix_refl _, hJ4.out⟩⟩
  · have hr : rowsL 6 n = [allF 48 n] := by simp [rowsL]
    rw [hr] at hY ⊢
    have HY := Lib.hid hY
    clear hY hr
    refine callsIn_of_wp Tryd.func98 rfl trivial ?_ rfl
    simp only [Tryd.ntmps98, List.size_toArray, List.length_cons, List.length_nil, Nat.reduceAdd, Nat.reduceSub, Array.replicate_succ, Array.replicate_zero, List.push_toArray, List.append_toArray, List.nil_append, List.cons_append]
    gi_wp2_with fail
    refine ⟨trivial, (callsIn_wide.2 (repeat_ex 48 n hn _)).mono ?_⟩
    rintro e w2 ⟨rfl, b2⟩
    obtain ⟨fn, tmps, assign, body, hyr, hR⟩ := HY.out [] (allF 48 n) w2 (HJ.out _ _ _ H0.out b2) (List.prefix_refl _)
    have HR := Lib.hid hR
    clear b2 hR
    gi_wp2_with fail
    refine HR.out.mono ?_
    rintro e W3 (⟨rfl, hJ3⟩ | ⟨rfl, hJx3⟩)
    · have hJ4 := Lib.hid hJ3
      clear hJ3
      gi_wp2
      go_end0
      exact ⟨⟨_, rfl⟩, .inl hJ4.out⟩
    · have hJ4 := Lib.hid hJx3
      clear hJx3
      gi_wp2
      go_end0
      exact ⟨⟨_, rfl⟩, .inr ⟨_, List.prefix_refl _, hJ4.out⟩⟩
  · have hr : rowsL 7 n = [allF 48 n] := by simp [rowsL]
    rw [hr] at hY ⊢
    have HY := Lib.hid hY
    clear hY hr
    refine callsIn_of_wp Tryd.func98 rfl trivial ?_ rfl
    simp only [Tryd.ntmps98, List.size_toArray, List.length_cons, List.length_nil, Nat.reduceAdd, Nat.reduceSub, Array.replicate_succ, Array.replicate_zero, List.push_toArray, List.append_toArray, List.nil_append, List.cons_append]
    gi_wp2_with fail
    refine ⟨trivial, (callsIn_wide.2 (repeat_ex 48 n hn _)).mono ?_⟩
    rintro e w2 ⟨rfl, b2⟩
    obtain ⟨fn, tmps, assign, body, hyr, hR⟩ := HY.out [] (allF 48 n) w2 (HJ.out _ _ _ H0.out b2) (List.prefix_refl _)
    have HR := Lib.hid hR
    clear b2 hR
    gi_wp2_with fail
    refine HR.out.mono ?_
    rintro e W3 (⟨rfl, hJ3⟩ | ⟨rfl, hJx3⟩)
    · have hJ4 := Lib.hid hJ3
      clear hJ3
      gi_wp2
      go_end0
      exact ⟨⟨_, rfl⟩, .inl hJ4.out⟩
    · have hJ4 := Lib.hid hJx3
      clear hJx3
      gi_wp2
      go_end0
      exact ⟨⟨_, rfl⟩, .inr ⟨_, List.prefix_refl _, hJ4.out⟩⟩
  · have hr : rowsL 8 n = parL n 1 (2 ^ n) := by simp [rowsL]
    rw [hr] at hY ⊢
    have HY := Lib.hid hY
    clear hY hr
    refine callsIn_of_wp Tryd.func98 rfl trivial ?_ rfl
    simp only [Tryd.ntmps98, List.size_toArray, List.length_cons, List.length_nil, Nat.reduceAdd, Nat.reduceSub, Array.replicate_succ, Array.replicate_zero, List.push_toArray, List.append_toArray, List.nil_append, List.cons_append]
    have HP := Lib.hid (par_in l n 1 3 W hn J Jx HJ.out (fun pre x W1 h1 h2 => HY.out pre x W1 h1 (by obtain ⟨k, hk, e⟩ := h2; rw [e]; exact parL_pre' n 1 k _ hk)) H0.out)
    gi_wp2_with fail
    refine ⟨trivial, (callsIn_wide.2 (callsIn_wide.1 HP.out)).mono ?_⟩
    rintro e W3 ⟨⟨v, rfl⟩, hJ3⟩
    have hJ4 := Lib.hid hJ3
    clear hJ3
    gi_wp2
    go_end0
    refine ⟨⟨_, rfl⟩, ?_⟩
    rcases hJ4.out with h | ⟨k, hk, h⟩
    · exact .inl h
    · exact .inr ⟨_, parL_pre' n 1 k _ hk, h⟩
  · have hr : rowsL 9 n = parL n 0 (2 ^ n) := by simp [rowsL]
    rw [hr] at hY ⊢
    have HY := Lib.hid hY
    clear hY hr
    refine callsIn_of_wp Tryd.func98 rfl trivial ?_ rfl
    simp only [Tryd.ntmps98, List.size_toArray, List.length_cons, List.length_nil, Nat.reduceAdd, Nat.reduceSub, Array.replicate_succ, Array.replicate_zero, List.push_toArray, List.append_toArray, List.nil_append, List.cons_append]
    have HP := Lib.hid (par_in l n 0 3 W hn J Jx HJ.out (fun pre x W1 h1 h2 => HY.out pre x W1 h1 (by obtain ⟨k, hk, e⟩ := h2; rw [e]; exact parL_pre' n 0 k _ hk)) H0.out)
    gi_wp2_with fail
    refine ⟨trivial, (callsIn_wide.2 (callsIn_wide.1 HP.out)).mono ?_⟩
    rintro e W3 ⟨⟨v, rfl⟩, hJ3⟩
    have hJ4 := Lib.hid hJ3
    clear hJ3
    gi_wp2
    go_end0
    refine ⟨⟨_, rfl⟩, ?_⟩
    rcases hJ4.out with h | ⟨k, hk, h⟩
    · exact .inl h
    · exact .inr ⟨_, parL_pre' n 0 k _ hk, h⟩
end Go.Proofs.YtfkmolbcgnkfdaaDoor

/- The iterator's contract; the rows of both sides. -/
namespace Go.Proofs.YtfkmolbcgnkfdaaDoor
open Go.RowKit Go.Shelf
set_option maxRecDepth 100000
def strOf (x : ByteArray) : Array Value := #[.string x]
theorem cover_iter (op : Int) (n N B1 B2 : Nat) (w : World) (hop : 0 ≤ op ∧ op ≤ 9) (hn : n ≤ 8) (h1 : B1 < w.heap.size) (h2 : B2 < w.heap.size) (c1 : w.cell? ⟨B1, 0, none⟩ = some (.int .i64 op)) (c2 : w.cell? ⟨B2, 0, none⟩ = some (.int .i64 (n : Int))) :
    Iter Fence.wide 4 Tryd.prog 98 #[.pointer (some ⟨B1, 0, none⟩), .pointer (some ⟨B2, 0, none⟩)] strOf (fun _ => False) (fun _ _ => True) (fun xs => xs = rowsL op n) (fun pre => pre <+: rowsL op n) (fun pre => pre <+: rowsL op n) N w :=
  fun l J Jx W hW hst hN hY h0 => (cover_in l op n B1 B2 W hop hn J Jx
    (fun xs A B h hb => hst xs A B none h (below_grown hb) (fun r e => by cases e))
    (fun pre x W1 hJ hp => (hY pre x W1 hJ (hN pre W1 hJ) hp).mono fun e w' h => h.elim (fun a => .inl ⟨a.1, a.2.1⟩) .inr)
    ((hW.cell (p := ⟨B1, 0, none⟩) h1).trans c1) ((hW.cell (p := ⟨B2, 0, none⟩) h2).trans c2) h0).mono
    fun e w' h => ⟨h.1, h.2.elim (fun a => .inl ⟨_, rfl, a⟩) (fun ⟨pre, hp, hx⟩ => .inr ⟨pre, hp, hx⟩)⟩
theorem rows_same (op : Int) (n : Nat) (hop : 0 ≤ op ∧ op ≤ 9) (hn : n ≤ 8) (h : (rowsS op n).2.2 = true) : (rowsS op n).1 = rowsL op n := by
  obtain rfl | rfl | rfl | rfl | rfl | rfl | rfl | rfl | rfl | rfl : op = 0 ∨ op = 1 ∨ op = 2 ∨ op = 3 ∨ op = 4 ∨ op = 5 ∨ op = 6 ∨ op = 7 ∨ op = 8 ∨ op = 9 := by omega
  · rfl
  · simp [rowsS] at h
    subst h
    rfl
  · simp [rowsS] at h
    subst h
    rfl
  · simp [rowsS] at h
    subst h
    rfl
  · rfl
  · rfl
  · rfl
  · rfl
  · by_cases e : n < 2
    · simp [rowsS, e] at h
    · simp [rowsS, rowsL, e, show ¬ 8 < n by omega]
  · by_cases e : n < 2
    · simp [rowsS, e] at h
    · simp [rowsS, rowsL, e, show ¬ 8 < n by omega]
end Go.Proofs.YtfkmolbcgnkfdaaDoor

/- Is a gate's cover that of an op. -/
namespace Go.Proofs.YtfkmolbcgnkfdaaDoor
open Go.RowKit Go.Shelf
attribute [local go_sem] Oper.semAt_some
set_option maxRecDepth 100000
def hcI (w : World) (cs : Array Value) (rows pre : List ByteArray) (W : World) : Prop :=
  pre <+: rows ∧ Blk W w.heap.size cs 39 ∧ Blk W (w.heap.size + 1) #[.bool false] 4 ∧ Blk W (w.heap.size + 1 + 1) #[.int .i64 (pre.length : Int)] 3 ∧ Below w.heap.size w W
def hcX (w : World) (rows : List ByteArray) (c : Code) (pre : List ByteArray) (W : World) : Prop :=
  c = .ret ∧ ¬ pre <+: rows ∧ Blk W (w.heap.size + 1) #[.bool false] 4 ∧ Below w.heap.size w W
theorem prefix_next {l m : List ByteArray} {y : ByteArray} (h : l <+: m) (hy : m[l.length]? = some y) (x : ByteArray) : ((l ++ [x]) <+: m → y = x) ∧ (y = x → (l ++ [x]) <+: m) := by
  obtain ⟨r, rfl⟩ := h
  rw [List.getElem?_append_right (Nat.le_refl _), Nat.sub_self] at hy
  cases r with
  | nil => cases hy
  | cons z r =>
    cases hy
    refine ⟨fun h => ?_, fun e => ?_⟩
    · obtain ⟨t, e⟩ := (List.prefix_append_right_inj l).1 h
      exact ((List.cons.inj e).1).symm
    · rw [e]
      exact (List.prefix_append_right_inj l).2 ⟨r, rfl⟩
theorem hcI_kept {w W W' : World} {cs : Array Value} {rows pre : List ByteArray} {row : Option Nat} (h : hcI w cs rows pre W) (hg : W.grownBy W' row) (hr : ∀ r, row = some r → w.heap.size + 5 ≤ r) : hcI w cs rows pre W' := by
  obtain ⟨h0, h1, h2, h3, h4⟩ := h
  exact ⟨h0, grown_keeps hg h1 (fun e => by have := hr _ e; omega), grown_keeps hg h2 (fun e => by have := hr _ e; omega), grown_keeps hg h3 (fun e => by have := hr _ e; omega), h4.grown hg h4.size (fun r e => by have := hr _ e; omega)⟩
theorem hcX_kept {w W W' : World} {c : Code} {rows pre : List ByteArray} {row : Option Nat} (h : hcX w rows c pre W) (hg : W.grownBy W' row) (hr : ∀ r, row = some r → w.heap.size + 5 ≤ r) : hcX w rows c pre W' := by
  obtain ⟨h1, h2, h3, h4⟩ := h
  exact ⟨h1, h2, grown_keeps hg h3 (fun e => by have := hr _ e; omega), h4.grown hg h4.size (fun r e => by have := hr _ e; omega)⟩
def hasC (g : Gt) (op : Int) : Bool := (g.off == (decide (op = 5) || decide (op = 6))) && decide (rowsL op g.ins.length = g.rows)
theorem results_cell_bool (r : Bool) (tmps : Array Value) (w : World) (g : Nat) (hp : tmps[4]?.getD undef = .pointer (some ⟨g, 0, none⟩)) (c1 : w.cell? ⟨g, 0, none⟩ = some (.bool r)) : (results Tryd.f79 tmps).run Tryd.prog w = .ok (.bool r) w := by
  simp [results, Tryd.results79, go_sem, hp, c1]

set_option maxHeartbeats 20000000 in
theorem has_ff (g : Gt) (vi vr : Value) (op : Int) (w : World) (hop : 0 ≤ op ∧ op ≤ 9) (hi : Inn w vi g.ins) (hr : Inn w vr g.rows) (hn : g.ins.length ≤ 8) (hrl : g.rows.length ≤ 100000) (h5 : (op == 5) = false) (h6 : (op == 6) = false) :
    Calls Tryd.prog 79 #[.agg #[.string g.name, .int .i64 g.op, vi, vr, .bool false], .int .i64 op] w fun e w' => e = .returned (.bool (decide (rowsL op g.ins.length = g.rows))) ∧ Below w.heap.size w w' := by
  have HI := Lib.hid hi
  have HR := Lib.hid hr
  have HOP := Lib.hid hop
  obtain ⟨pi, qi, rfl⟩ := hi.lst.slice
  obtain ⟨pr, qr, rfl⟩ := hr.lst.slice
  clear hi hr hop
  obtain ⟨R, hR⟩ : ∃ R, rowsL op g.ins.length = R := ⟨_, rfl⟩
  have HRR := Lib.hid hR
  rw [hR]
  clear hR
  refine (callsIn_wide (n := 5)).1 ?_
  refine callsIn_of_wp_marks Tryd.func79 rfl trivial ?_ rfl
  simp only [Tryd.ntmps79, List.size_toArray, List.length_cons, List.length_nil, Nat.reduceAdd, Nat.reduceSub, Array.replicate_succ, Array.replicate_zero, List.push_toArray, List.append_toArray, List.nil_append, List.cons_append]
  have k0 := ((Blk.new w #[.string g.name, .int .i64 g.op, .slice pi g.ins.length qi, .slice pr g.rows.length qr, .bool false] 39).alloc (.cells #[.bool false] 4))
  have e4 := k0.cell 4
  have k0' := k0.alloc (.cells #[.int .i64 0] 3)
  have e2 := k0'.cell 2
  simp at e4 e2
  have k1 := (Blk.new (w.alloc (.cells #[.string g.name, .int .i64 g.op, .slice pi g.ins.length qi, .slice pr g.rows.length qr, .bool false] 39)) #[.bool false] 4).alloc (.cells #[.int .i64 0] 3)
  have k2 := Blk.new ((w.alloc (.cells #[.string g.name, .int .i64 g.op, .slice pi g.ins.length qi, .slice pr g.rows.length qr, .bool false] 39)).alloc (.cells #[.bool false] 4)) #[.int .i64 0] 3
  simp only [World.size_alloc] at k1 k2
  have hB0 : Below w.heap.size w (((w.alloc (.cells #[.string g.name, .int .i64 g.op, .slice pi g.ins.length qi, .slice pr g.rows.length qr, .bool false] 39)).alloc (.cells #[.bool false] 4)).alloc (.cells #[.int .i64 0] 3)) := (((Below.refl _ w).alloc (Nat.le_refl _) _).alloc (by simp) _).alloc (by simp; omega) _
  have hsz0 : (((w.alloc (.cells #[.string g.name, .int .i64 g.op, .slice pi g.ins.length qi, .slice pr g.rows.length qr, .bool false] 39)).alloc (.cells #[.bool false] 4)).alloc (.cells #[.int .i64 0] 3)).heap.size = w.heap.size + 3 := by simp
  have K0 := Lib.hid k0'
  have K1 := Lib.hid k1
  have K2 := Lib.hid k2
  have HB0 := Lib.hid hB0
  have HSZ0 := Lib.hid hsz0
  clear k0 k0' k1 k2 hB0 hsz0
  gi_wp2_with fail
  refine ⟨trivial, (callsIn_wide.2 (mkcover op g.ins.length _)).mono ?_⟩
  rintro e w' ⟨rfl, rfl⟩
  clear e4 e2
  generalize (((w.alloc (.cells #[.string g.name, .int .i64 g.op, .slice pi g.ins.length qi, .slice pr g.rows.length qr, .bool false] 39)).alloc (.cells #[.bool false] 4)).alloc (.cells #[.int .i64 0] 3)) = W0 at *
  rw [HSZ0.out]
  have hs1 : ((W0.alloc (.cells #[.int .i64 op] 37)).alloc (.cells #[.int .i64 (g.ins.length : Int)] 3)).heap.size = w.heap.size + 5 := by simp [HSZ0.out]
  have b3 := (Blk.new W0 #[.int .i64 op] 37).alloc (.cells #[.int .i64 (g.ins.length : Int)] 3)
  have b4 := Blk.new (W0.alloc (.cells #[.int .i64 op] 37)) #[.int .i64 (g.ins.length : Int)] 3
  rw [World.size_alloc] at b4
  rw [HSZ0.out] at b3 b4
  have hB1 := (HB0.out.alloc HB0.out.size (.cells #[.int .i64 op] 37)).alloc (by simp [HSZ0.out]; omega) (.cells #[.int .i64 (g.ins.length : Int)] 3)
  have i0 : hcI w #[.string g.name, .int .i64 g.op, .slice pi g.ins.length qi, .slice pr g.rows.length qr, .bool false] g.rows [] ((W0.alloc (.cells #[.int .i64 op] 37)).alloc (.cells #[.int .i64 (g.ins.length : Int)] 3)) := ⟨List.nil_prefix, (K0.out.alloc _).alloc _, (K1.out.alloc _).alloc _, (K2.out.alloc _).alloc _, hB1⟩
  generalize ((W0.alloc (.cells #[.int .i64 op] 37)).alloc (.cells #[.int .i64 (g.ins.length : Int)] 3)) = W1 at *
  have I0 := Lib.hid i0
  have hc3 := b3.cell 0
  have hc4 := b4.cell 0
  simp at hc3 hc4
  clear i0 K0 K1 K2 HB0 HSZ0
  gi_wp2_with fail
  refine range_over (α := ByteArray) (gf := 98) (lb := #[.pointer (some ⟨w.heap.size + 3, 0, none⟩), .pointer (some ⟨w.heap.size + 3 + 1, 0, none⟩)]) (N := g.rows.length + 1) (encs := strOf) (R := fun _ => False) (Kp := fun _ _ => True) rfl (by omega) rfl trivial (enters_of Tryd.func98 (by kernel_rfl) rfl)
    (cover_iter op g.ins.length (g.rows.length + 1) (w.heap.size + 3) (w.heap.size + 3 + 1) W1 HOP.out hn (by omega) (by omega) hc3 hc4) (fun r h => h.elim) (fun _ _ => trivial) (fun _ _ _ _ => trivial) (fun _ => rfl)
    (hcI w #[.string g.name, .int .i64 g.op, .slice pi g.ins.length qi, .slice pr g.rows.length qr, .bool false] g.rows) (hcX w g.rows) (fun pre W W' row h hg hr => hcI_kept h hg (fun r e => by have := (hr r e).1; omega)) (fun pre W1 h => by have := h.1.length_le; omega) (fun pre A B row h hg hr => hcI_kept h hg (fun r e => (hr r e).elim))
    (fun cd pre W W' row h hg hr => hcX_kept h hg (fun r e => by have := (hr r e).1; omega)) I0.out ?a1 ?assign ?body ?done ?stop
  case assign =>
    intro l x W K hK
    unfold strOf
    gi_wp2
    exact hK
  case body =>
    rintro l pre x W hsW ⟨h0, h1, h2, h3, h4⟩ hlt hpf
    have HH0 := Lib.hid h0
    have HH1 := Lib.hid h1
    have HH2 := Lib.hid h2
    have HH3 := Lib.hid h3
    have HH4 := Lib.hid h4
    have hle := h0.length_le
    have c3 := h1.cell 3
    have r0 := h2.cell 0
    have f0 := h2.frozen 0
    have i0 := h3.cell 0
    have fi := h3.frozen 0
    simp at c3 r0 i0
    have K3 := Lib.hid (h2.set 0 (.bool false))
    have B3 := Lib.hid (h4.setCell (p := ⟨w.heap.size + 1, 0, none⟩) (by simp) (.bool false))
    have KF := Lib.hid (KeepsFrom.of_grownBy (B := W1.heap.size) (grownBy_setCell' W (w.heap.size + 1) (.bool false)) (fun j e => by cases e; omega))
    have KI := Lib.hid (h3.set 0 (.int .i64 ((pre.length : Int) + 1)))
    have BI := Lib.hid (h4.setCell (p := ⟨w.heap.size + 1 + 1, 0, none⟩) (by simp; omega) (.int .i64 ((pre.length : Int) + 1)))
    have KFI := Lib.hid (KeepsFrom.of_grownBy (B := W1.heap.size) (grownBy_setCell' W (w.heap.size + 1 + 1) (.int .i64 ((pre.length : Int) + 1))) (fun j e => by cases e; omega))
    have KG := Lib.hid (h1.other (B' := w.heap.size + 1 + 1) (by omega) 0 (.int .i64 ((pre.length : Int) + 1)))
    have KR := Lib.hid (h2.other (B' := w.heap.size + 1 + 1) (by omega) 0 (.int .i64 ((pre.length : Int) + 1)))
    have LR := Lib.hid (HR.out.lst.below h4)
    clear h0 h1 h2 h3 h4 hc3 hc4 b3 b4 hB1 hs1
    by_cases he : pre.length = g.rows.length
    · have he' : ((pre.length : Int) == (g.rows.length : Int)) = true := by rw [he]; simp
      have hnp : ¬ (pre ++ [x]) <+: g.rows := fun h => by have := h.length_le; simp at this; omega
      have HNP := Lib.hid hnp
      clear hnp he
      gi_wp2
      exact ⟨KF.out, rfl, HNP.out, K3.out, B3.out⟩
    · have he' : ((pre.length : Int) == (g.rows.length : Int)) = false := by rw [beq_eq_false_iff_ne]; omega
      have hltr : pre.length < g.rows.length := by omega
      have hltr' : (pre.length : Int) < (g.rows.length : Int) := by omega
      obtain ⟨gb, o, cq, y, hy, hv, hg, hc⟩ := LR.out.at_ stc_len hltr
      injection hv with hb hm hcc
      subst hb hcc
      clear hm
      have d0 : W.cell? ⟨gb, o + pre.length, none⟩ = some (.string y) := by have := hc 0 (by omega); simpa [stc] using this
      have HP := Lib.hid (prefix_next HH0.out hy x)
      clear hc hy he
      by_cases hyx : y = x
      · subst hyx
        have hxn : (y.toList == y.toList) = true := tl_self y
        have hpn := Lib.hid (HP.out.2 rfl)
        have hml : (pre ++ [y]).length = pre.length + 1 := by simp
        have HML := Lib.hid hml
        clear hml
        gi_wp2
        refine ⟨KFI.out, trivial, hpn.out, KG.out, KR.out, ?_, BI.out⟩
        rw [HML.out]
        have := KI.out
        simpa using this
      · have hxn : (y.toList == x.toList) = false := tl_ne y x hyx
        have hnp := Lib.hid (fun h => hyx (HP.out.1 h))
        clear hyx
        gi_wp2
        exact ⟨KF.out, rfl, hnp.out, K3.out, B3.out⟩
  case stop =>
    rintro D cd pre W hD hpre ⟨rfl, hnp, h3, h4⟩ hK
    have HQ := Lib.hid (show decide (R = g.rows) = false from decide_eq_false (fun e => hnp (by rw [← e, ← HRR.out]; exact hpre)))
    have hK2 := hK
    have hDn : D ≠ w.heap.size + 1 := by omega
    have h3' : Blk (W.putObj D (.deferred none)) (w.heap.size + 1) #[.bool false] 4 := (World.putObj_heap_other (Ne.symm hDn)).trans h3
    have c3 := h3'.cell 0
    simp at c3
    have HB := Lib.hid (h4.trans (belowK_b (w := w) (Nat.le_refl _) W D _ (.deferred none) (by omega) hK rfl rfl))
    clear h3 h4 h3' hnp hpre
    gi_wp2
    refine ⟨by simp, .inl ⟨_, _, rfl, run_takeDeferred hK2, ?_⟩⟩
    refine ⟨.bool false, ?_, by rw [HQ.out], HB.out⟩
    simp [results, Tryd.results79, go_sem, c3]
  case done =>
    rintro D ys W hD hys ⟨h0, h1, h2, h3, h4⟩ hK
    obtain ⟨q, hq⟩ : ∃ q, decide (R = g.rows) = q := ⟨_, rfl⟩
    have HQ := Lib.hid hq
    have hqe : ((ys.length : Int) == (g.rows.length : Int)) = q := by
      rw [← hq, ← HRR.out, ← hys, Bool.eq_iff_iff, beq_iff_eq, decide_eq_true_eq]
      exact ⟨fun e => h0.eq_of_length (by omega), fun e => by rw [e]⟩
    have hDn : D ≠ w.heap.size + 1 := by omega
    have c3 := h1.cell 3
    have r0 := h2.cell 0
    have f0 := h2.frozen 0
    have i0 := h3.cell 0
    simp at c3 r0 i0
    have k8 := h2.set 0 (.bool q)
    have hk8 : (World.setCell W ⟨w.heap.size + 1, 0, none⟩ (.bool q)).heap[D]? = some (.deferred (some [])) := (RowKit.Below.heap_setCell _ _ _ _ hDn).trans hK
    have hb8 := h4.setCell (p := ⟨w.heap.size + 1, 0, none⟩) (by simp) (.bool q)
    have HB := Lib.hid (hb8.trans (belowK_b (w := w) (Nat.le_refl _) _ D _ (.deferred none) (by omega) hk8 rfl rfl))
    have h9 : Blk ((World.setCell W ⟨w.heap.size + 1, 0, none⟩ (.bool q)).putObj D (.deferred none)) (w.heap.size + 1) #[.bool q] 4 := (World.putObj_heap_other (Ne.symm hDn)).trans k8
    have c9 := h9.cell 0
    simp at c9
    have HK8 := Lib.hid hk8
    clear k8 hb8 h9 hk8 h0 h1 h2 h3 h4 hK hq hc3 hc4 b3 b4 hB1 hs1 hys
    gi_wp2
    refine ⟨by simp, .inl ⟨_, _, rfl, run_takeDeferred HK8.out, ?_⟩⟩
    refine ⟨.bool q, ?_, by rw [HQ.out], HB.out⟩
    simp [results, Tryd.results79, go_sem, c9]

set_option maxHeartbeats 20000000 in
theorem has_tf (g : Gt) (vi vr : Value) (op : Int) (w : World) (hop : 0 ≤ op ∧ op ≤ 9) (hi : Inn w vi g.ins) (hr : Inn w vr g.rows) (hn : g.ins.length ≤ 8) (hrl : g.rows.length ≤ 100000) (h5 : (op == 5) = true) :
    Calls Tryd.prog 79 #[.agg #[.string g.name, .int .i64 g.op, vi, vr, .bool true], .int .i64 op] w fun e w' => e = .returned (.bool (decide (rowsL op g.ins.length = g.rows))) ∧ Below w.heap.size w w' := by
  have HI := Lib.hid hi
  have HR := Lib.hid hr
  have HOP := Lib.hid hop
  obtain ⟨pi, qi, rfl⟩ := hi.lst.slice
  obtain ⟨pr, qr, rfl⟩ := hr.lst.slice
  clear hi hr hop
  obtain ⟨R, hR⟩ : ∃ R, rowsL op g.ins.length = R := ⟨_, rfl⟩
  have HRR := Lib.hid hR
  rw [hR]
  clear hR
  refine (callsIn_wide (n := 5)).1 ?_
  refine callsIn_of_wp_marks Tryd.func79 rfl trivial ?_ rfl
  simp only [Tryd.ntmps79, List.size_toArray, List.length_cons, List.length_nil, Nat.reduceAdd, Nat.reduceSub, Array.replicate_succ, Array.replicate_zero, List.push_toArray, List.append_toArray, List.nil_append, List.cons_append]
  have k0 := ((Blk.new w #[.string g.name, .int .i64 g.op, .slice pi g.ins.length qi, .slice pr g.rows.length qr, .bool true] 39).alloc (.cells #[.bool false] 4))
  have e4 := k0.cell 4
  have k0' := k0.alloc (.cells #[.int .i64 0] 3)
  have e2 := k0'.cell 2
  simp at e4 e2
  have k1 := (Blk.new (w.alloc (.cells #[.string g.name, .int .i64 g.op, .slice pi g.ins.length qi, .slice pr g.rows.length qr, .bool true] 39)) #[.bool false] 4).alloc (.cells #[.int .i64 0] 3)
  have k2 := Blk.new ((w.alloc (.cells #[.string g.name, .int .i64 g.op, .slice pi g.ins.length qi, .slice pr g.rows.length qr, .bool true] 39)).alloc (.cells #[.bool false] 4)) #[.int .i64 0] 3
  simp only [World.size_alloc] at k1 k2
  have hB0 : Below w.heap.size w (((w.alloc (.cells #[.string g.name, .int .i64 g.op, .slice pi g.ins.length qi, .slice pr g.rows.length qr, .bool true] 39)).alloc (.cells #[.bool false] 4)).alloc (.cells #[.int .i64 0] 3)) := (((Below.refl _ w).alloc (Nat.le_refl _) _).alloc (by simp) _).alloc (by simp; omega) _
  have hsz0 : (((w.alloc (.cells #[.string g.name, .int .i64 g.op, .slice pi g.ins.length qi, .slice pr g.rows.length qr, .bool true] 39)).alloc (.cells #[.bool false] 4)).alloc (.cells #[.int .i64 0] 3)).heap.size = w.heap.size + 3 := by simp
  have K0 := Lib.hid k0'
  have K1 := Lib.hid k1
  have K2 := Lib.hid k2
  have HB0 := Lib.hid hB0
  have HSZ0 := Lib.hid hsz0
  clear k0 k0' k1 k2 hB0 hsz0
  gi_wp2_with fail
  refine ⟨trivial, (callsIn_wide.2 (mkcover op g.ins.length _)).mono ?_⟩
  rintro e w' ⟨rfl, rfl⟩
  clear e4 e2
  generalize (((w.alloc (.cells #[.string g.name, .int .i64 g.op, .slice pi g.ins.length qi, .slice pr g.rows.length qr, .bool true] 39)).alloc (.cells #[.bool false] 4)).alloc (.cells #[.int .i64 0] 3)) = W0 at *
  rw [HSZ0.out]
  have hs1 : ((W0.alloc (.cells #[.int .i64 op] 37)).alloc (.cells #[.int .i64 (g.ins.length : Int)] 3)).heap.size = w.heap.size + 5 := by simp [HSZ0.out]
  have b3 := (Blk.new W0 #[.int .i64 op] 37).alloc (.cells #[.int .i64 (g.ins.length : Int)] 3)
  have b4 := Blk.new (W0.alloc (.cells #[.int .i64 op] 37)) #[.int .i64 (g.ins.length : Int)] 3
  rw [World.size_alloc] at b4
  rw [HSZ0.out] at b3 b4
  have hB1 := (HB0.out.alloc HB0.out.size (.cells #[.int .i64 op] 37)).alloc (by simp [HSZ0.out]; omega) (.cells #[.int .i64 (g.ins.length : Int)] 3)
  have i0 : hcI w #[.string g.name, .int .i64 g.op, .slice pi g.ins.length qi, .slice pr g.rows.length qr, .bool true] g.rows [] ((W0.alloc (.cells #[.int .i64 op] 37)).alloc (.cells #[.int .i64 (g.ins.length : Int)] 3)) := ⟨List.nil_prefix, (K0.out.alloc _).alloc _, (K1.out.alloc _).alloc _, (K2.out.alloc _).alloc _, hB1⟩
  generalize ((W0.alloc (.cells #[.int .i64 op] 37)).alloc (.cells #[.int .i64 (g.ins.length : Int)] 3)) = W1 at *
  have I0 := Lib.hid i0
  have hc3 := b3.cell 0
  have hc4 := b4.cell 0
  simp at hc3 hc4
  clear i0 K0 K1 K2 HB0 HSZ0
  gi_wp2_with fail
  refine range_over (α := ByteArray) (gf := 98) (lb := #[.pointer (some ⟨w.heap.size + 3, 0, none⟩), .pointer (some ⟨w.heap.size + 3 + 1, 0, none⟩)]) (N := g.rows.length + 1) (encs := strOf) (R := fun _ => False) (Kp := fun _ _ => True) rfl (by omega) rfl trivial (enters_of Tryd.func98 (by kernel_rfl) rfl)
    (cover_iter op g.ins.length (g.rows.length + 1) (w.heap.size + 3) (w.heap.size + 3 + 1) W1 HOP.out hn (by omega) (by omega) hc3 hc4) (fun r h => h.elim) (fun _ _ => trivial) (fun _ _ _ _ => trivial) (fun _ => rfl)
    (hcI w #[.string g.name, .int .i64 g.op, .slice pi g.ins.length qi, .slice pr g.rows.length qr, .bool true] g.rows) (hcX w g.rows) (fun pre W W' row h hg hr => hcI_kept h hg (fun r e => by have := (hr r e).1; omega)) (fun pre W1 h => by have := h.1.length_le; omega) (fun pre A B row h hg hr => hcI_kept h hg (fun r e => (hr r e).elim))
    (fun cd pre W W' row h hg hr => hcX_kept h hg (fun r e => by have := (hr r e).1; omega)) I0.out ?a1 ?assign ?body ?done ?stop
  case assign =>
    intro l x W K hK
    unfold strOf
    gi_wp2
    exact hK
  case body =>
    rintro l pre x W hsW ⟨h0, h1, h2, h3, h4⟩ hlt hpf
    have HH0 := Lib.hid h0
    have HH1 := Lib.hid h1
    have HH2 := Lib.hid h2
    have HH3 := Lib.hid h3
    have HH4 := Lib.hid h4
    have hle := h0.length_le
    have c3 := h1.cell 3
    have r0 := h2.cell 0
    have f0 := h2.frozen 0
    have i0 := h3.cell 0
    have fi := h3.frozen 0
    simp at c3 r0 i0
    have K3 := Lib.hid (h2.set 0 (.bool false))
    have B3 := Lib.hid (h4.setCell (p := ⟨w.heap.size + 1, 0, none⟩) (by simp) (.bool false))
    have KF := Lib.hid (KeepsFrom.of_grownBy (B := W1.heap.size) (grownBy_setCell' W (w.heap.size + 1) (.bool false)) (fun j e => by cases e; omega))
    have KI := Lib.hid (h3.set 0 (.int .i64 ((pre.length : Int) + 1)))
    have BI := Lib.hid (h4.setCell (p := ⟨w.heap.size + 1 + 1, 0, none⟩) (by simp; omega) (.int .i64 ((pre.length : Int) + 1)))
    have KFI := Lib.hid (KeepsFrom.of_grownBy (B := W1.heap.size) (grownBy_setCell' W (w.heap.size + 1 + 1) (.int .i64 ((pre.length : Int) + 1))) (fun j e => by cases e; omega))
    have KG := Lib.hid (h1.other (B' := w.heap.size + 1 + 1) (by omega) 0 (.int .i64 ((pre.length : Int) + 1)))
    have KR := Lib.hid (h2.other (B' := w.heap.size + 1 + 1) (by omega) 0 (.int .i64 ((pre.length : Int) + 1)))
    have LR := Lib.hid (HR.out.lst.below h4)
    clear h0 h1 h2 h3 h4 hc3 hc4 b3 b4 hB1 hs1
    by_cases he : pre.length = g.rows.length
    · have he' : ((pre.length : Int) == (g.rows.length : Int)) = true := by rw [he]; simp
      have hnp : ¬ (pre ++ [x]) <+: g.rows := fun h => by have := h.length_le; simp at this; omega
      have HNP := Lib.hid hnp
      clear hnp he
      gi_wp2
      exact ⟨KF.out, rfl, HNP.out, K3.out, B3.out⟩
    · have he' : ((pre.length : Int) == (g.rows.length : Int)) = false := by rw [beq_eq_false_iff_ne]; omega
      have hltr : pre.length < g.rows.length := by omega
      have hltr' : (pre.length : Int) < (g.rows.length : Int) := by omega
      obtain ⟨gb, o, cq, y, hy, hv, hg, hc⟩ := LR.out.at_ stc_len hltr
      injection hv with hb hm hcc
      subst hb hcc
      clear hm
      have d0 : W.cell? ⟨gb, o + pre.length, none⟩ = some (.string y) := by have := hc 0 (by omega); simpa [stc] using this
      have HP := Lib.hid (prefix_next HH0.out hy x)
      clear hc hy he
      by_cases hyx : y = x
      · subst hyx
        have hxn : (y.toList == y.toList) = true := tl_self y
        have hpn := Lib.hid (HP.out.2 rfl)
        have hml : (pre ++ [y]).length = pre.length + 1 := by simp
        have HML := Lib.hid hml
        clear hml
        gi_wp2
        refine ⟨KFI.out, trivial, hpn.out, KG.out, KR.out, ?_, BI.out⟩
        rw [HML.out]
        have := KI.out
        simpa using this
      · have hxn : (y.toList == x.toList) = false := tl_ne y x hyx
        have hnp := Lib.hid (fun h => hyx (HP.out.1 h))
        clear hyx
        gi_wp2
        exact ⟨KF.out, rfl, hnp.out, K3.out, B3.out⟩
  case stop =>
    rintro D cd pre W hD hpre ⟨rfl, hnp, h3, h4⟩ hK
    have HQ := Lib.hid (show decide (R = g.rows) = false from decide_eq_false (fun e => hnp (by rw [← e, ← HRR.out]; exact hpre)))
    have hK2 := hK
    have hDn : D ≠ w.heap.size + 1 := by omega
    have h3' : Blk (W.putObj D (.deferred none)) (w.heap.size + 1) #[.bool false] 4 := (World.putObj_heap_other (Ne.symm hDn)).trans h3
    have c3 := h3'.cell 0
    simp at c3
    have HB := Lib.hid (h4.trans (belowK_b (w := w) (Nat.le_refl _) W D _ (.deferred none) (by omega) hK rfl rfl))
    clear h3 h4 h3' hnp hpre
    gi_wp2
    refine ⟨by simp, .inl ⟨_, _, rfl, run_takeDeferred hK2, ?_⟩⟩
    refine ⟨.bool false, ?_, by rw [HQ.out], HB.out⟩
    simp [results, Tryd.results79, go_sem, c3]
  case done =>
    rintro D ys W hD hys ⟨h0, h1, h2, h3, h4⟩ hK
    obtain ⟨q, hq⟩ : ∃ q, decide (R = g.rows) = q := ⟨_, rfl⟩
    have HQ := Lib.hid hq
    have hqe : ((ys.length : Int) == (g.rows.length : Int)) = q := by
      rw [← hq, ← HRR.out, ← hys, Bool.eq_iff_iff, beq_iff_eq, decide_eq_true_eq]
      exact ⟨fun e => h0.eq_of_length (by omega), fun e => by rw [e]⟩
    have hDn : D ≠ w.heap.size + 1 := by omega
    have c3 := h1.cell 3
    have r0 := h2.cell 0
    have f0 := h2.frozen 0
    have i0 := h3.cell 0
    simp at c3 r0 i0
    have k8 := h2.set 0 (.bool q)
    have hk8 : (World.setCell W ⟨w.heap.size + 1, 0, none⟩ (.bool q)).heap[D]? = some (.deferred (some [])) := (RowKit.Below.heap_setCell _ _ _ _ hDn).trans hK
    have hb8 := h4.setCell (p := ⟨w.heap.size + 1, 0, none⟩) (by simp) (.bool q)
    have HB := Lib.hid (hb8.trans (belowK_b (w := w) (Nat.le_refl _) _ D _ (.deferred none) (by omega) hk8 rfl rfl))
    have h9 : Blk ((World.setCell W ⟨w.heap.size + 1, 0, none⟩ (.bool q)).putObj D (.deferred none)) (w.heap.size + 1) #[.bool q] 4 := (World.putObj_heap_other (Ne.symm hDn)).trans k8
    have c9 := h9.cell 0
    simp at c9
    have HK8 := Lib.hid hk8
    clear k8 hb8 h9 hk8 h0 h1 h2 h3 h4 hK hq hc3 hc4 b3 b4 hB1 hs1 hys
    gi_wp2
    refine ⟨by simp, .inl ⟨_, _, rfl, run_takeDeferred HK8.out, ?_⟩⟩
    refine ⟨.bool q, ?_, by rw [HQ.out], HB.out⟩
    simp [results, Tryd.results79, go_sem, c9]

set_option maxHeartbeats 20000000 in
theorem has_ft (g : Gt) (vi vr : Value) (op : Int) (w : World) (hop : 0 ≤ op ∧ op ≤ 9) (hi : Inn w vi g.ins) (hr : Inn w vr g.rows) (hn : g.ins.length ≤ 8) (hrl : g.rows.length ≤ 100000) (h5 : (op == 5) = false) (h6 : (op == 6) = true) :
    Calls Tryd.prog 79 #[.agg #[.string g.name, .int .i64 g.op, vi, vr, .bool true], .int .i64 op] w fun e w' => e = .returned (.bool (decide (rowsL op g.ins.length = g.rows))) ∧ Below w.heap.size w w' := by
  have HI := Lib.hid hi
  have HR := Lib.hid hr
  have HOP := Lib.hid hop
  obtain ⟨pi, qi, rfl⟩ := hi.lst.slice
  obtain ⟨pr, qr, rfl⟩ := hr.lst.slice
  clear hi hr hop
  obtain ⟨R, hR⟩ : ∃ R, rowsL op g.ins.length = R := ⟨_, rfl⟩
  have HRR := Lib.hid hR
  rw [hR]
  clear hR
  refine (callsIn_wide (n := 5)).1 ?_
  refine callsIn_of_wp_marks Tryd.func79 rfl trivial ?_ rfl
  simp only [Tryd.ntmps79, List.size_toArray, List.length_cons, List.length_nil, Nat.reduceAdd, Nat.reduceSub, Array.replicate_succ, Array.replicate_zero, List.push_toArray, List.append_toArray, List.nil_append, List.cons_append]
  have k0 := ((Blk.new w #[.string g.name, .int .i64 g.op, .slice pi g.ins.length qi, .slice pr g.rows.length qr, .bool true] 39).alloc (.cells #[.bool false] 4))
  have e4 := k0.cell 4
  have k0' := k0.alloc (.cells #[.int .i64 0] 3)
  have e2 := k0'.cell 2
  simp at e4 e2
  have k1 := (Blk.new (w.alloc (.cells #[.string g.name, .int .i64 g.op, .slice pi g.ins.length qi, .slice pr g.rows.length qr, .bool true] 39)) #[.bool false] 4).alloc (.cells #[.int .i64 0] 3)
  have k2 := Blk.new ((w.alloc (.cells #[.string g.name, .int .i64 g.op, .slice pi g.ins.length qi, .slice pr g.rows.length qr, .bool true] 39)).alloc (.cells #[.bool false] 4)) #[.int .i64 0] 3
  simp only [World.size_alloc] at k1 k2
  have hB0 : Below w.heap.size w (((w.alloc (.cells #[.string g.name, .int .i64 g.op, .slice pi g.ins.length qi, .slice pr g.rows.length qr, .bool true] 39)).alloc (.cells #[.bool false] 4)).alloc (.cells #[.int .i64 0] 3)) := (((Below.refl _ w).alloc (Nat.le_refl _) _).alloc (by simp) _).alloc (by simp; omega) _
  have hsz0 : (((w.alloc (.cells #[.string g.name, .int .i64 g.op, .slice pi g.ins.length qi, .slice pr g.rows.length qr, .bool true] 39)).alloc (.cells #[.bool false] 4)).alloc (.cells #[.int .i64 0] 3)).heap.size = w.heap.size + 3 := by simp
  have K0 := Lib.hid k0'
  have K1 := Lib.hid k1
  have K2 := Lib.hid k2
  have HB0 := Lib.hid hB0
  have HSZ0 := Lib.hid hsz0
  clear k0 k0' k1 k2 hB0 hsz0
  gi_wp2_with fail
  refine ⟨trivial, (callsIn_wide.2 (mkcover op g.ins.length _)).mono ?_⟩
  rintro e w' ⟨rfl, rfl⟩
  clear e4 e2
  generalize (((w.alloc (.cells #[.string g.name, .int .i64 g.op, .slice pi g.ins.length qi, .slice pr g.rows.length qr, .bool true] 39)).alloc (.cells #[.bool false] 4)).alloc (.cells #[.int .i64 0] 3)) = W0 at *
  rw [HSZ0.out]
  have hs1 : ((W0.alloc (.cells #[.int .i64 op] 37)).alloc (.cells #[.int .i64 (g.ins.length : Int)] 3)).heap.size = w.heap.size + 5 := by simp [HSZ0.out]
  have b3 := (Blk.new W0 #[.int .i64 op] 37).alloc (.cells #[.int .i64 (g.ins.length : Int)] 3)
  have b4 := Blk.new (W0.alloc (.cells #[.int .i64 op] 37)) #[.int .i64 (g.ins.length : Int)] 3
  rw [World.size_alloc] at b4
  rw [HSZ0.out] at b3 b4
  have hB1 := (HB0.out.alloc HB0.out.size (.cells #[.int .i64 op] 37)).alloc (by simp [HSZ0.out]; omega) (.cells #[.int .i64 (g.ins.length : Int)] 3)
  have i0 : hcI w #[.string g.name, .int .i64 g.op, .slice pi g.ins.length qi, .slice pr g.rows.length qr, .bool true] g.rows [] ((W0.alloc (.cells #[.int .i64 op] 37)).alloc (.cells #[.int .i64 (g.ins.length : Int)] 3)) := ⟨List.nil_prefix, (K0.out.alloc _).alloc _, (K1.out.alloc _).alloc _, (K2.out.alloc _).alloc _, hB1⟩
  generalize ((W0.alloc (.cells #[.int .i64 op] 37)).alloc (.cells #[.int .i64 (g.ins.length : Int)] 3)) = W1 at *
  have I0 := Lib.hid i0
  have hc3 := b3.cell 0
  have hc4 := b4.cell 0
  simp at hc3 hc4
  clear i0 K0 K1 K2 HB0 HSZ0
  gi_wp2_with fail
  refine range_over (α := ByteArray) (gf := 98) (lb := #[.pointer (some ⟨w.heap.size + 3, 0, none⟩), .pointer (some ⟨w.heap.size + 3 + 1, 0, none⟩)]) (N := g.rows.length + 1) (encs := strOf) (R := fun _ => False) (Kp := fun _ _ => True) rfl (by omega) rfl trivial (enters_of Tryd.func98 (by kernel_rfl) rfl)
    (cover_iter op g.ins.length (g.rows.length + 1) (w.heap.size + 3) (w.heap.size + 3 + 1) W1 HOP.out hn (by omega) (by omega) hc3 hc4) (fun r h => h.elim) (fun _ _ => trivial) (fun _ _ _ _ => trivial) (fun _ => rfl)
    (hcI w #[.string g.name, .int .i64 g.op, .slice pi g.ins.length qi, .slice pr g.rows.length qr, .bool true] g.rows) (hcX w g.rows) (fun pre W W' row h hg hr => hcI_kept h hg (fun r e => by have := (hr r e).1; omega)) (fun pre W1 h => by have := h.1.length_le; omega) (fun pre A B row h hg hr => hcI_kept h hg (fun r e => (hr r e).elim))
    (fun cd pre W W' row h hg hr => hcX_kept h hg (fun r e => by have := (hr r e).1; omega)) I0.out ?a1 ?assign ?body ?done ?stop
  case assign =>
    intro l x W K hK
    unfold strOf
    gi_wp2
    exact hK
  case body =>
    rintro l pre x W hsW ⟨h0, h1, h2, h3, h4⟩ hlt hpf
    have HH0 := Lib.hid h0
    have HH1 := Lib.hid h1
    have HH2 := Lib.hid h2
    have HH3 := Lib.hid h3
    have HH4 := Lib.hid h4
    have hle := h0.length_le
    have c3 := h1.cell 3
    have r0 := h2.cell 0
    have f0 := h2.frozen 0
    have i0 := h3.cell 0
    have fi := h3.frozen 0
    simp at c3 r0 i0
    have K3 := Lib.hid (h2.set 0 (.bool false))
    have B3 := Lib.hid (h4.setCell (p := ⟨w.heap.size + 1, 0, none⟩) (by simp) (.bool false))
    have KF := Lib.hid (KeepsFrom.of_grownBy (B := W1.heap.size) (grownBy_setCell' W (w.heap.size + 1) (.bool false)) (fun j e => by cases e; omega))
    have KI := Lib.hid (h3.set 0 (.int .i64 ((pre.length : Int) + 1)))
    have BI := Lib.hid (h4.setCell (p := ⟨w.heap.size + 1 + 1, 0, none⟩) (by simp; omega) (.int .i64 ((pre.length : Int) + 1)))
    have KFI := Lib.hid (KeepsFrom.of_grownBy (B := W1.heap.size) (grownBy_setCell' W (w.heap.size + 1 + 1) (.int .i64 ((pre.length : Int) + 1))) (fun j e => by cases e; omega))
    have KG := Lib.hid (h1.other (B' := w.heap.size + 1 + 1) (by omega) 0 (.int .i64 ((pre.length : Int) + 1)))
    have KR := Lib.hid (h2.other (B' := w.heap.size + 1 + 1) (by omega) 0 (.int .i64 ((pre.length : Int) + 1)))
    have LR := Lib.hid (HR.out.lst.below h4)
    clear h0 h1 h2 h3 h4 hc3 hc4 b3 b4 hB1 hs1
    by_cases he : pre.length = g.rows.length
    · have he' : ((pre.length : Int) == (g.rows.length : Int)) = true := by rw [he]; simp
      have hnp : ¬ (pre ++ [x]) <+: g.rows := fun h => by have := h.length_le; simp at this; omega
      have HNP := Lib.hid hnp
      clear hnp he
      gi_wp2
      exact ⟨KF.out, rfl, HNP.out, K3.out, B3.out⟩
    · have he' : ((pre.length : Int) == (g.rows.length : Int)) = false := by rw [beq_eq_false_iff_ne]; omega
      have hltr : pre.length < g.rows.length := by omega
      have hltr' : (pre.length : Int) < (g.rows.length : Int) := by omega
      obtain ⟨gb, o, cq, y, hy, hv, hg, hc⟩ := LR.out.at_ stc_len hltr
      injection hv with hb hm hcc
      subst hb hcc
      clear hm
      have d0 : W.cell? ⟨gb, o + pre.length, none⟩ = some (.string y) := by have := hc 0 (by omega); simpa [stc] using this
      have HP := Lib.hid (prefix_next HH0.out hy x)
      clear hc hy he
      by_cases hyx : y = x
      · subst hyx
        have hxn : (y.toList == y.toList) = true := tl_self y
        have hpn := Lib.hid (HP.out.2 rfl)
        have hml : (pre ++ [y]).length = pre.length + 1 := by simp
        have HML := Lib.hid hml
        clear hml
        gi_wp2
        refine ⟨KFI.out, trivial, hpn.out, KG.out, KR.out, ?_, BI.out⟩
        rw [HML.out]
        have := KI.out
        simpa using this
      · have hxn : (y.toList == x.toList) = false := tl_ne y x hyx
        have hnp := Lib.hid (fun h => hyx (HP.out.1 h))
        clear hyx
        gi_wp2
        exact ⟨KF.out, rfl, hnp.out, K3.out, B3.out⟩
  case stop =>
    rintro D cd pre W hD hpre ⟨rfl, hnp, h3, h4⟩ hK
    have HQ := Lib.hid (show decide (R = g.rows) = false from decide_eq_false (fun e => hnp (by rw [← e, ← HRR.out]; exact hpre)))
    have hK2 := hK
    have hDn : D ≠ w.heap.size + 1 := by omega
    have h3' : Blk (W.putObj D (.deferred none)) (w.heap.size + 1) #[.bool false] 4 := (World.putObj_heap_other (Ne.symm hDn)).trans h3
    have c3 := h3'.cell 0
    simp at c3
    have HB := Lib.hid (h4.trans (belowK_b (w := w) (Nat.le_refl _) W D _ (.deferred none) (by omega) hK rfl rfl))
    clear h3 h4 h3' hnp hpre
    gi_wp2
    refine ⟨by simp, .inl ⟨_, _, rfl, run_takeDeferred hK2, ?_⟩⟩
    refine ⟨.bool false, ?_, by rw [HQ.out], HB.out⟩
    simp [results, Tryd.results79, go_sem, c3]
  case done =>
    rintro D ys W hD hys ⟨h0, h1, h2, h3, h4⟩ hK
    obtain ⟨q, hq⟩ : ∃ q, decide (R = g.rows) = q := ⟨_, rfl⟩
    have HQ := Lib.hid hq
    have hqe : ((ys.length : Int) == (g.rows.length : Int)) = q := by
      rw [← hq, ← HRR.out, ← hys, Bool.eq_iff_iff, beq_iff_eq, decide_eq_true_eq]
      exact ⟨fun e => h0.eq_of_length (by omega), fun e => by rw [e]⟩
    have hDn : D ≠ w.heap.size + 1 := by omega
    have c3 := h1.cell 3
    have r0 := h2.cell 0
    have f0 := h2.frozen 0
    have i0 := h3.cell 0
    simp at c3 r0 i0
    have k8 := h2.set 0 (.bool q)
    have hk8 : (World.setCell W ⟨w.heap.size + 1, 0, none⟩ (.bool q)).heap[D]? = some (.deferred (some [])) := (RowKit.Below.heap_setCell _ _ _ _ hDn).trans hK
    have hb8 := h4.setCell (p := ⟨w.heap.size + 1, 0, none⟩) (by simp) (.bool q)
    have HB := Lib.hid (hb8.trans (belowK_b (w := w) (Nat.le_refl _) _ D _ (.deferred none) (by omega) hk8 rfl rfl))
    have h9 : Blk ((World.setCell W ⟨w.heap.size + 1, 0, none⟩ (.bool q)).putObj D (.deferred none)) (w.heap.size + 1) #[.bool q] 4 := (World.putObj_heap_other (Ne.symm hDn)).trans k8
    have c9 := h9.cell 0
    simp at c9
    have HK8 := Lib.hid hk8
    clear k8 hb8 h9 hk8 h0 h1 h2 h3 h4 hK hq hc3 hc4 b3 b4 hB1 hs1 hys
    gi_wp2
    refine ⟨by simp, .inl ⟨_, _, rfl, run_takeDeferred HK8.out, ?_⟩⟩
    refine ⟨.bool q, ?_, by rw [HQ.out], HB.out⟩
    simp [results, Tryd.results79, go_sem, c9]
end Go.Proofs.YtfkmolbcgnkfdaaDoor

/- Is a gate's cover that of an op: all cases. -/
namespace Go.Proofs.YtfkmolbcgnkfdaaDoor
open Go.RowKit
attribute [local go_sem] Oper.semAt_some
set_option maxRecDepth 100000
set_option maxHeartbeats 1000000
theorem has_no (g : Gt) (vi vr : Value) (op : Int) (w : World) (off b5 b6 : Bool) (h5 : (op == 5) = b5) (h6 : (op == 6) = b6) (ho : (off == (b5 || b6)) = false) :
    Calls Tryd.prog 79 #[.agg #[.string g.name, .int .i64 g.op, vi, vr, .bool off], .int .i64 op] w fun e w' => e = .returned (.bool false) ∧ Below w.heap.size w w' := by
  have HB := Lib.hid (((Below.refl w.heap.size w).alloc (Nat.le_refl _) (.cells #[.string g.name, .int .i64 g.op, vi, vr, .bool off] 39)).alloc (by simp) (.cells #[.bool false] 4))
  have e4 := ((Blk.new w #[.string g.name, .int .i64 g.op, vi, vr, .bool off] 39).alloc (.cells #[.bool false] 4)).cell 4
  have f1 := (Blk.new (w.alloc (.cells #[.string g.name, .int .i64 g.op, vi, vr, .bool off] 39)) #[.bool false] 4).frozen 0
  have c1 := (Blk.new (w.alloc (.cells #[.string g.name, .int .i64 g.op, vi, vr, .bool off] 39)) #[.bool false] 4).cell 0
  rw [World.size_alloc] at f1 c1
  simp at e4
  cases b5 <;> cases b6 <;> cases off <;> simp at ho
  all_goals
    go_enter Tryd.func79, Tryd.ntmps79
    go_wp2
    refine bodyPost_ret (results_cell_bool false _ _ (w.heap.size + 1) rfl (c1.trans rfl)) rfl ?_
    exact ⟨rfl, HB.out⟩
theorem hascover_any (g : Gt) (vi vr : Value) (op : Int) (q : Bool) (w : World) (hop : 0 ≤ op ∧ op ≤ 9) (hi : Inn w vi g.ins) (hr : Inn w vr g.rows) (hn : g.ins.length ≤ 8) (hrl : g.rows.length ≤ 100000) (hq : hasC g op = q) :
    Calls Tryd.prog 79 #[.agg #[.string g.name, .int .i64 g.op, vi, vr, .bool g.off], .int .i64 op] w fun e w' => e = .returned (.bool q) ∧ Below w.heap.size w w' := by
  subst hq
  have e5 : decide (op = 5) = (op == 5) := by rw [Bool.eq_iff_iff]; simp
  have e6 : decide (op = 6) = (op == 6) := by rw [Bool.eq_iff_iff]; simp
  unfold hasC
  rw [e5, e6]
  by_cases ho : (g.off == ((op == 5) || (op == 6))) = false
  · rw [ho]
    exact has_no g vi vr op w g.off _ _ rfl rfl ho
  · rw [Bool.not_eq_false] at ho
    rw [ho, Bool.true_and]
    have hoff := beq_iff_eq.1 ho
    rw [hoff]
    cases h5 : (op == 5) <;> cases h6 : (op == 6)
    · exact has_ff g vi vr op w hop hi hr hn hrl h5 h6
    · exact has_ft g vi vr op w hop hi hr hn hrl h5 h6
    · exact has_tf g vi vr op w hop hi hr hn hrl h5
    · exact has_tf g vi vr op w hop hi hr hn hrl h5
end Go.Proofs.YtfkmolbcgnkfdaaDoor
