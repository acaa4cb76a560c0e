/- The stem and 1, the stem and 2, and so on. -/
import Derived.Test.YtfljnhmpelpdaaaDoorWord
import Derived.Test.YtfljnhmpelpdaaaDoorRange
import Derived.OwnWalkIn
import Derived.TacticsInMore
import Derived.LoopNIn
import Derived.LoopIn
import Derived.RegionIn
import Derived.Stop.RegionWithIn
namespace Go.Proofs.YtfljnhmpelpdaaaDoor
open Go.RowKit Go.Shelf
attribute [local go_sem] Oper.semAt_some

def dec (k : Nat) : ByteArray := ⟨(Lib.decDigits k).toArray⟩
def numS (stem : ByteArray) (k : Nat) : ByteArray := stem ++ dec k
/-- the first k of them -/
def nums (stem : ByteArray) (k : Nat) : List ByteArray := (List.range k).map fun i => numS stem (i + 1)
theorem nums_succ (stem : ByteArray) (k : Nat) : nums stem (k + 1) = nums stem k ++ [numS stem (k + 1)] := by
  unfold nums; rw [List.range_succ, List.map_append]; rfl
theorem dec_size (k : Nat) (h : k < 100) : (dec k).size ≤ 2 := by
  have := (by decide +kernel : ∀ i : Fin 100, (dec i.val).size ≤ 2) ⟨k, h⟩
  exact this

set_option maxRecDepth 100000 in
set_option maxHeartbeats 2000000 in
theorem numd_in (l Bn : Nat) (stem : ByteArray) (hs : stem.size ≤ 100000) (J Jx : List ByteArray → World → Prop) (hJ : Stands (fun _ => False) J) (hN : ∀ pre W1, J pre W1 → pre.length < 99) (W : World)
    (hY : ∀ pre x W1, J pre W1 → pre.length < 99 → (∃ k, pre ++ [x] = nums stem k) → YieldAt Fence.wide 3 Tryd.prog l #[.string x] W1 fun e W' =>
      (e = .returned (.bool true) ∧ J (pre ++ [x]) W' ∧ W'.heap[Bn]? = W1.heap[Bn]?) ∨ (e = .returned (.bool false) ∧ Jx (pre ++ [x]) W'))
    (hB : Blk W Bn #[.string stem] 9) (h0 : J [] W) :
    CallsIn Fence.wide 4 Tryd.prog 51 #[.func (.yield l) #[] #[], .pointer (some ⟨Bn, 0, none⟩)] W fun e W' => (∃ v, e = .returned v) ∧
      ((∃ xs, False ∧ J xs W') ∨ (∃ pre, (∃ k, pre = nums stem k) ∧ Jx pre W')) := by
  have HJ := Lib.hid hJ
  have HN := Lib.hid hN
  have HY := Lib.hid hY
  clear hJ hY hN
  refine callsIn_of_wp Tryd.func51 rfl trivial ?_ rfl
  simp only [Tryd.ntmps51, List.size_toArray, List.length_cons, List.length_nil, Nat.reduceAdd, Nat.reduceSub, Array.replicate_succ, Array.replicate_zero, List.push_toArray, List.append_toArray, List.nil_append, List.cons_append]
  gi_wp2
  gi_loopw [3] (fun i wr => ∃ k : Nat, i = .int .i64 ((k : Int) + 1) ∧ Blk wr Bn #[.string stem] 9 ∧ J (nums stem k) wr)
    (fun i _ => 100 - (intOf i).toNat)
  case atStart => exact ⟨0, rfl, hB, h0⟩
  case round =>
    obtain ⟨k, rfl, hb, hJ0⟩ := hrel
    have hc := hb.cell 0
    have hf := hb.frozen 0
    simp at hc
    have hkl := HN.out _ _ hJ0
    have hkk : k < 99 := by
      have h1 : (nums stem k).length = k := by simp [nums]
      omega
    have hJd : J (nums stem k) wr.drew := HJ.out _ _ _ none hJ0 ⟨rfl, rfl, rfl, Nat.le_refl _, fun _ _ _ => rfl⟩ (fun r e => by cases e)
    obtain ⟨fn, tmps, assign, body, hy, hR⟩ := HY.out (nums stem k) (numS stem (k + 1)) wr.drew hJd (by simp [nums]; omega) ⟨k + 1, (nums_succ stem k).symm⟩
    have hds := dec_size (k + 1) (by omega)
    unfold numS at hy
    have hit : ∀ w, Calls Tryd.prog 52 #[.int .i64 ((k : Int) + 1)] w fun e w' => e = .returned (.string (dec (k + 1))) ∧ w' = w := fun w => by
      have h := Tryd.strconv_Itoa_small (k + 1) (by omega) w
      rwa [show ((k + 1 : Nat) : Int) = (k : Int) + 1 from by omega] at h
    have HIT := Lib.hid hit
    have hR2 : RoundIn Fence.wide 3 Tryd.prog l fn tmps assign body wr.drew fun e W' => ∃ q : Bool, e = .returned (.bool q) ∧ Hid ((q = true → J (nums stem (k + 1)) W' ∧ W'.heap[Bn]? = wr.drew.heap[Bn]?) ∧ (q = false → Jx (nums stem (k + 1)) W')) := by
      refine hR.mono ?_
      rintro e W3 (⟨rfl, hJ3, hk3⟩ | ⟨rfl, hJx3⟩)
      · exact ⟨true, rfl, Lib.hid ⟨fun _ => ⟨by rw [nums_succ]; exact hJ3, hk3⟩, fun h => by cases h⟩⟩
      · exact ⟨false, rfl, Lib.hid ⟨(fun h => by cases h), fun _ => by rw [nums_succ]; exact hJx3⟩⟩
    have HR := Lib.hid hR2
    have HB := Lib.hid hb
    clear hit hkl hR hR2 hJd hb hJ0
    gi_wp2_with fail
    gi_region_with (first | (refine ⟨trivial, (callsIn_wide.2 (HIT.out _)).mono ?_⟩; rintro e w' ⟨rfl, rfl⟩) | (refine HR.out.mono ?_; rintro e W3 ⟨q, rfl, hq⟩))
    all_goals
      have hb3 : q = true → Blk W3 Bn #[.string stem] 9 := fun h => (hq.out.1 h).2.trans HB.out
      cases q
      · have HX := Lib.hid (hq.out.2 rfl)
        clear hb3
        gi_wp2
        go_end0
        exact ⟨⟨_, rfl⟩, nums stem (k + 1), ⟨k + 1, rfl⟩, HX.out⟩
      · have HJ3 := Lib.hid (hq.out.1 rfl).1
        have HB3 := Lib.hid (hb3 rfl)
        clear hb3
        gi_wp2
        refine ⟨⟨k + 1, by go_num, HB3.out, HJ3.out⟩, ?_⟩
        simp [intOf]; omega

theorem numd_iter (Bn : Nat) (stem : ByteArray) (hs : stem.size ≤ 100000) (w : World) (hB : Blk w Bn #[.string stem] 9) :
    Iter Fence.wide 4 Tryd.prog 51 #[.pointer (some ⟨Bn, 0, none⟩)] (fun x : ByteArray => #[Value.string x]) (fun _ => False) (fun A B => B.heap[Bn]? = A.heap[Bn]?) (fun _ => False) (fun pre => ∃ k, pre = nums stem k) (fun xs => ∃ k, xs = nums stem k) 99 w :=
  fun l J Jx W hW hJ hN hY h0 => numd_in l Bn stem hs J Jx hJ hN W hY (hB.below hW hB.lt) h0
theorem mknum (stem : ByteArray) (w : World) :
    Calls Tryd.prog 29 #[.string stem] w fun e w' => e = .returned (.func (.func 51) #[] #[.pointer (some ⟨w.heap.size, 0, none⟩)]) ∧ w' = w.alloc (.cells #[.string stem] 9) := by
  have hmf : ∀ (fn : Fn) (first cap : Array Value) (w : World), (Instr.makeFunc fn first cap).run Tryd.prog w = .ok (.func fn first cap) w := fun _ _ _ _ => rfl
  go_enter Tryd.func29, Tryd.ntmps29
  go_wp2
  go_ret
  exact ⟨rfl, rfl⟩
end Go.Proofs.YtfljnhmpelpdaaaDoor
