/- Delta: the iterator that keeps the rest of the number in a captured variable, and the loop over it. -/
import Derived.Test.YtkemaaohmfdhbaaDoorUnds
import Derived.Test.YtkemaaohmfdhbaaDoorRange
import Derived.Test.YtkemaaohmfdhbaaDoorBlk
import Derived.RangeFuncNested
import Derived.RangeFuncBound
import Derived.RangeFuncCalls
import Derived.RangeFuncLeaves
import Derived.Shelf.Abstract
import Derived.Laws.Bits128
import Derived.Shelf.RegionOpen
import Derived.WalkKit
import Derived.OwnWalkIn
import Derived.TacticsInMore
import Derived.LoopNIn
import Derived.LoopIn
import Derived.Maps.AppendAt
namespace Go.Proofs.YtkemaaohmfdhbaaDoor
open Go.RowKit Go.Shelf
attribute [local go_sem] Oper.semAt_some

set_option maxRecDepth 100000 in
set_option maxHeartbeats 2000000 in
theorem groups1_in (l Bn n : Nat) (hn : n ≤ 2147483647) (J Jx : List UInt8 → World → Prop) (hJ : Stands (· = Bn) J) (W : World)
    (hY : ∀ pre x W1, J pre W1 → pre.length < 6 → YieldAt Fence.wide 3 Tryd.prog l #[.int .u8 (x.toNat : Int)] W1 fun e W' =>
      (e = .returned (.bool true) ∧ J (pre ++ [x]) W' ∧ W'.heap[Bn]? = W1.heap[Bn]?) ∨ (e = .returned (.bool false) ∧ Jx (pre ++ [x]) W'))
    (hB : Blk W Bn #[.int .i64 (n : Int)] 3) (h0 : J [] W) :
    CallsIn Fence.wide 4 Tryd.prog 29 #[.func (.yield l) #[] #[], .pointer (some ⟨Bn, 0, none⟩)] W fun e W' => (∃ v, e = .returned v) ∧
      ((∃ xs, xs = grp n ∧ J xs W') ∨ (∃ pre, True ∧ Jx pre W')) := by
  have HJ := Lib.hid hJ
  have HY := Lib.hid hY
  have hlen := Lib.hid (grp_len 4 n (by omega))
  clear hJ hY
  refine callsIn_of_wp Tryd.func29 rfl trivial ?_ rfl
  simp only [Tryd.ntmps29, List.size_toArray, List.length_cons, List.length_nil, Nat.reduceAdd, Nat.reduceSub, Array.replicate_succ, Array.replicate_zero, List.push_toArray, List.append_toArray, List.nil_append, List.cons_append]
  gi_wp2
  gi_loopw [] (fun wr => ∃ (pre : List UInt8) (t : Nat), Blk wr Bn #[.int .i64 (t : Int)] 3 ∧ t ≤ 2147483647 ∧ Hid (pre ++ grp t = grp n) ∧ J pre wr)
    (fun wr => match wr.cell? ⟨Bn, 0, none⟩ with | some (.int _ t) => t.toNat | _ => 0)
  case atStart => exact ⟨[], n, hB, hn, Lib.hid (by simp), h0⟩
  case round =>
    obtain ⟨pre, t, hb, ht, hsp, hJ0⟩ := hrel
    have hc := hb.cell 0
    have hf := hb.frozen 0
    simp at hc
    have hpl : pre.length < 6 := by
      have h1 := congrArg List.length hsp.out
      have h2 := grp_pos t
      have h3 := hlen.out
      simp at h1; omega
    by_cases hbig : t < 128
    · have hu : ((UInt8.ofNat t).toNat : Int) = t := by simp; omega
      obtain ⟨fn, tmps, assign, body, hy, hR⟩ := HY.out pre (UInt8.ofNat t) wr hJ0 hpl
      rw [hu] at hy
      have hg := Lib.hid (grp_small hbig)
      clear hu
      gi_wp2_with fail
      refine hR.mono ?_
      rintro e W3 (⟨rfl, hJ3, hk3⟩ | ⟨rfl, hJx3⟩)
      · gi_wp2
        go_end0
        exact ⟨⟨_, rfl⟩, .inl ⟨pre ++ [UInt8.ofNat t], by rw [← hsp.out, hg.out], hJ3⟩⟩
      · gi_wp2
        go_end0
        exact ⟨⟨_, rfl⟩, .inr ⟨pre ++ [UInt8.ofNat t], trivial, hJx3⟩⟩
    · have hu : ((UInt8.ofNat (t % 128 + 128)).toNat : Int) = bits BinOp.or IntKind.u8 ((t : Int) % 128) 128 := by
        rw [u8_or128_right _ (by omega) (by omega)]
        simp; omega
      obtain ⟨fn, tmps, assign, body, hy, hR⟩ := HY.out pre (UInt8.ofNat (t % 128 + 128)) wr hJ0 hpl
      rw [hu] at hy
      have hg := Lib.hid (grp_big hbig)
      clear hu
      have hba : (128 : Int) ≤ (t : Int) := by omega
      gi_wp2_with fail
      refine hR.mono ?_
      rintro e W3 (⟨rfl, hJ3, hk3⟩ | ⟨rfl, hJx3⟩)
      · have hb3 : Blk W3 Bn #[.int .i64 (t : Int)] 3 := hk3.trans hb
        have hc3 := hb3.cell 0
        have hf3 := hb3.frozen 0
        simp at hc3
        have HB3 := Lib.hid hb3
        clear hk3 hb3
        gi_wp2
        have hb4 := HB3.out.set 0 (.int .i64 ((t : Int) / 128))
        rw [show ((t : Int) / 128) = ((t / 128 : Nat) : Int) from by omega] at hb4 ⊢
        refine ⟨⟨pre ++ [UInt8.ofNat (t % 128 + 128)], t / 128, hb4, by omega, Lib.hid ?_, HJ.out _ _ _ _ hJ3 (grownBy_setCell' _ _ _) (fun r e => by cases e; rfl)⟩, ?_⟩
        · rw [← hsp.out, hg.out]; simp
        · have h5 := hb4.cell 0
          rw [show (#[Value.int .i64 ((t : Nat) : Int)].setIfInBounds 0 (.int .i64 ((t / 128 : Nat) : Int)))[0]? = some (Value.int .i64 ((t / 128 : Nat) : Int)) from rfl] at h5
          rw [h5, hc]
          simp
          omega
      · gi_wp2
        refine bodyPost_ret (results_none rfl _ _ _) rfl ?_
        exact ⟨⟨_, rfl⟩, .inr ⟨_, trivial, hJx3⟩⟩
end Go.Proofs.YtkemaaohmfdhbaaDoor
