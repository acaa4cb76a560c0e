/- The names of both sides, place by place. -/
import Derived.Test.YtadodccciejghaaPlace
import Derived.Test.YtadodccciejghaaRange
import Derived.OwnWalkIn
import Derived.TacticsInMore
import Derived.LoopNIn
import Derived.LoopIn
import Derived.RegionIn
import Derived.Stop.RegionWithIn
import Derived.Shelf.Abstract
import Derived.Shelf.RegionOpen
import Derived.Sort.WalkA
namespace Go.Proofs.Ytadodccciejghaa
open Go.RowKit Go.Shelf
attribute [local go_sem] Oper.semAt_some
set_option maxRecDepth 100000

/-- blocks below n are what they were -/
def Kept (n : Nat) (A B : World) : Prop := A.heap.size ≤ B.heap.size ∧ ∀ k, k < n → B.heap[k]? = A.heap[k]?
theorem Kept.refl (n : Nat) (A : World) : Kept n A A := ⟨Nat.le_refl _, fun _ _ => rfl⟩
theorem Kept.trans {n : Nat} {A B C : World} (h : Kept n A B) (h' : Kept n B C) : Kept n A C := ⟨Nat.le_trans h.1 h'.1, fun k hk => (h'.2 k hk).trans (h.2 k hk)⟩
theorem Kept.cell {n : Nat} {A B : World} (h : Kept n A B) {g o : Nat} (hg : g < n) : B.cell? ⟨g, o, none⟩ = A.cell? ⟨g, o, none⟩ := by
  unfold World.cell?
  rw [h.2 g hg]
/-- blocks below n, and block m, are what they were -/
def KeptB (n m : Nat) (A B : World) : Prop := A.heap.size ≤ B.heap.size ∧ (∀ k, k < n → B.heap[k]? = A.heap[k]?) ∧ B.heap[m]? = A.heap[m]?
theorem KeptB.trans {n m : Nat} {A B C : World} (h : KeptB n m A B) (h' : KeptB n m B C) : KeptB n m A C := ⟨Nat.le_trans h.1 h'.1, fun k hk => (h'.2.1 k hk).trans (h.2.1 k hk), h'.2.2.trans h.2.2⟩
theorem KeptB.kept {n m : Nat} {A B : World} (h : KeptB n m A B) : Kept n A B := ⟨h.1, h.2.1⟩
theorem KeptB.refl (n m : Nat) (A : World) : KeptB n m A A := ⟨Nat.le_refl _, fun _ _ => rfl, rfl⟩
theorem Kept.of_below {A B : World} (h : Below A.heap.size A B) : Kept A.heap.size A B := ⟨h.size, fun k hk => h.block k hk⟩
def strsOf (x : ByteArray × ByteArray) : Array Value := #[.string x.1, .string x.2]

set_option maxHeartbeats 2000000 in
theorem pairs_in (l Bn : Nat) (a b : List ByteArray) (v u : Value) (w W : World) (hl : a.length ≤ 100000) (hab : a.length = b.length) (hv : Lst stc w v a) (hu : Lst stc w u b)
    (J Jx : List (ByteArray × ByteArray) → World → Prop)
    (hY : ∀ pre x W1, J pre W1 → (∃ k, pre ++ [x] = (a.zip b).take k) → YieldAt Fence.wide 3 Try.prog l (strsOf x) W1 fun e W' =>
      (e = .returned (.bool true) ∧ J (pre ++ [x]) W' ∧ KeptB w.heap.size Bn W1 W') ∨ (e = .returned (.bool false) ∧ Jx (pre ++ [x]) W'))
    (hB : Blk W Bn #[v, u] 24) (hK : Kept w.heap.size w W) (h0 : J [] W) :
    CallsIn Fence.wide 4 Try.prog 95 #[.func (.yield l) #[] #[], .pointer (some ⟨Bn, 0, none⟩)] W fun e W' => (∃ v, e = .returned v) ∧
      ((∃ xs, xs = a.zip b ∧ J xs W') ∨ (∃ pre, (∃ k, pre = (a.zip b).take k) ∧ Jx pre W')) := by
  have HY := Lib.hid hY
  have HV := Lib.hid hv
  have HU := Lib.hid hu
  have HAB := Lib.hid hab
  obtain ⟨va, vc, rfl⟩ := hv.slice
  obtain ⟨ua, uc, rfl⟩ := hu.slice
  have c0 := hB.cell 0
  have f0 := hB.frozen 0
  simp at c0
  have hbl : ((b.length : Int)) = (a.length : Int) := by omega
  clear hY hv hu hab hbl
  refine callsIn_of_wp Try.func95 rfl trivial ?_ rfl
  simp only [Try.ntmps95, List.size_toArray, List.length_cons, List.length_nil, Nat.reduceAdd, Nat.reduceSub, Array.replicate_succ, Array.replicate_zero, List.push_toArray, List.append_toArray, List.nil_append, List.cons_append]
  gi_wp2
  gi_loopw [8] (fun i wr => ∃ k : Nat, k ≤ a.length ∧ i = .int .i64 (k : Int) ∧ Blk wr Bn #[.slice va a.length vc, .slice ua b.length uc] 24 ∧ Kept w.heap.size w wr ∧ J ((a.zip b).take k) wr)
    (fun i _ => a.length - (intOf i).toNat)
  case atStart => exact ⟨0, Nat.zero_le _, rfl, hB, hK, h0⟩
  case round =>
    obtain ⟨k, hk, rfl, hb, hK1, hJ⟩ := hrel
    have e0 := hb.cell 0
    have e1 := hb.cell 1
    have g0 := hb.frozen 0
    have g1 := hb.frozen 1
    simp at e0 e1
    have HBK := Lib.hid hb
    have HKP := Lib.hid hK1
    by_cases hlt : k < a.length
    · have hlt' : (k : Int) < (a.length : Int) := by omega
      have hltb : k < b.length := by have := HAB.out; omega
      have hltb' : (k : Int) < (b.length : Int) := by omega
      obtain ⟨g, o, cc, x, hx, hv, hg, hc⟩ := HV.out.at_ stc_len hlt
      injection hv with hv1 hv2 hv3
      subst hv1 hv3
      clear hv2
      obtain ⟨g', o', cc', y, hy, hu, hg', hc'⟩ := HU.out.at_ stc_len hltb
      injection hu with hu1 hu2 hu3
      subst hu1 hu3
      clear hu2
      have d0 : wr.cell? ⟨g, o + k, none⟩ = some (.string x) := (hK1.cell (by omega)).trans (by have := hc 0 (by omega); simpa [stc] using this)
      have d1 : wr.cell? ⟨g', o' + k, none⟩ = some (.string y) := (hK1.cell (by omega)).trans (by have := hc' 0 (by omega); simpa [stc] using this)
      have hz : (a.zip b)[k]? = some (x, y) := List.getElem?_zip_eq_some.2 ⟨hx, hy⟩
      have hst : (a.zip b).take (k + 1) = (a.zip b).take k ++ [(x, y)] := by rw [List.take_add_one, hz]; rfl
      obtain ⟨fn, tmps, assign, body, hyr, hR⟩ := HY.out ((a.zip b).take k) (x, y) wr hJ ⟨k + 1, hst.symm⟩
      have HST := Lib.hid hst
      have HR := Lib.hid hR
      clear hc hc' hx hy hz hst hJ hb hK1 hR
      unfold strsOf at hyr
      simp only [] at hyr
      gi_wp2_with fail
      refine HR.out.mono ?_
      rintro e W3 (⟨rfl, hJ3, hk3⟩ | ⟨rfl, hJx3⟩)
      · have hb3 := Lib.hid (hk3.2.2.trans HBK.out)
        have hk4 := Lib.hid (HKP.out.trans hk3.kept)
        have hJ4 := Lib.hid hJ3
        clear hk3 hJ3
        gi_wp2
        refine ⟨⟨k + 1, by omega, by go_num, hb3.out, hk4.out, by rw [HST.out]; exact hJ4.out⟩, ?_⟩
        simp [intOf]; omega
      · have hJ4 := Lib.hid hJx3
        clear hJx3
        gi_wp2
        refine bodyPost_ret (results_none rfl _ _ _) rfl ?_
        exact ⟨⟨_, rfl⟩, .inr ⟨_, ⟨k + 1, HST.out.symm⟩, hJ4.out⟩⟩
    · have hge : (a.length : Int) ≤ (k : Int) := by omega
      have hkl : k = a.length := by omega
      have hJ4 := Lib.hid (show J (a.zip b) wr from by
        have : (a.zip b).take k = a.zip b := List.take_of_length_le (by rw [List.length_zip]; omega)
        rw [this] at hJ
        exact hJ)
      clear hkl hJ hb hK1
      gi_wp2
      go_end0
      exact ⟨⟨_, rfl⟩, .inl ⟨_, rfl, hJ4.out⟩⟩
theorem pairs_iter (Bn N : Nat) (a b : List ByteArray) (v u : Value) (w0 w : World) (hl : a.length ≤ 100000) (hab : a.length = b.length) (hv : Lst stc w0 v a) (hu : Lst stc w0 u b) (hw : Below w0.heap.size w0 w) (hB : Blk w Bn #[v, u] 24) :
    Iter Fence.wide 4 Try.prog 95 #[.pointer (some ⟨Bn, 0, none⟩)] strsOf (fun _ => False) (KeptB w0.heap.size Bn) (fun xs => xs = a.zip b) (fun pre => ∃ k, pre = (a.zip b).take k) (fun pre => ∃ k, pre = (a.zip b).take k) N w :=
  fun l J Jx W hW _ hN hY h0 => pairs_in l Bn a b v u w0 W hl hab hv hu J Jx
    (fun pre x W1 h1 h2 => hY pre x W1 h1 (hN pre W1 h1) h2) (hB.below hW hB.lt) (Kept.of_below (hw.trans (hW.mono hw.size))) h0
theorem mkpairs (v u : Value) (w : World) :
    Calls Try.prog 65 #[.agg #[v, u]] w fun e w' => e = .returned (.func (.func 95) #[] #[.pointer (some ⟨w.heap.size, 0, none⟩)]) ∧ w' = w.alloc (.cells #[v, u] 24) := by
  have hmf : ∀ (fn : Fn) (first cap : Array Value) (w : World), (Instr.makeFunc fn first cap).run Try.prog w = .ok (.func fn first cap) w := fun _ _ _ _ => rfl
  go_enter Try.func65, Try.ntmps65
  go_wp2
  go_ret
  exact ⟨rfl, rfl⟩
end Go.Proofs.Ytadodccciejghaa
