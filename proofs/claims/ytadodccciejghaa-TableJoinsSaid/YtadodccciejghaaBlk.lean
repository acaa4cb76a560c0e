/- A block of cells known whole. -/
import Derived.WalkKit
import Derived.ProofKit
import Derived.Lib.Hide
import Derived.OneCell
import Derived.RangeFuncRecord
namespace Go.Proofs.Ytadodccciejghaa
open Go.RowKit

/-- block B: these cells, of this type, none of them frozen -/
def Blk (W : World) (B : Nat) (vs : Array Value) (t : TypeId) : Prop := W.heap[B]? = some (.cells vs t (0, 0))
theorem Blk.lt {W : World} {B : Nat} {vs : Array Value} {t : TypeId} (h : Blk W B vs t) : B < W.heap.size := (Array.getElem?_eq_some_iff.1 h).1
theorem Blk.cell {W : World} {B : Nat} {vs : Array Value} {t : TypeId} (h : Blk W B vs t) (i : Nat) : W.cell? ⟨B, i, none⟩ = vs[i]? := by simp [World.cell?, show W.heap[B]? = _ from h]
theorem Blk.frozen {W : World} {B : Nat} {vs : Array Value} {t : TypeId} (h : Blk W B vs t) (i : Nat) : W.frozen? ⟨B, i, none⟩ = false := by simp [World.frozen?, show W.heap[B]? = _ from h]
theorem Blk.new (W : World) (vs : Array Value) (t : TypeId) : Blk (W.alloc (.cells vs t)) W.heap.size vs t := World.alloc_heap_new W _
theorem Blk.alloc {W : World} {B : Nat} {vs : Array Value} {t : TypeId} (h : Blk W B vs t) (o : Obj) : Blk (W.alloc o) B vs t := (Below.heap_alloc W o B h.lt).trans h
theorem Blk.below {W W' : World} {n B : Nat} {vs : Array Value} {t : TypeId} (h : Blk W B vs t) (hb : Below n W W') (hB : B < n) : Blk W' B vs t := (hb.block B hB).trans h
theorem Blk.drew {W : World} {B : Nat} {vs : Array Value} {t : TypeId} (h : Blk W B vs t) : Blk W.drew B vs t := h
theorem Blk.set {W : World} {B : Nat} {vs : Array Value} {t : TypeId} (h : Blk W B vs t) (i : Nat) (v : Value) : Blk (W.setCell ⟨B, i, none⟩ v) B (vs.setIfInBounds i v) t := by
  obtain ⟨hlt, hk⟩ := Array.getElem?_eq_some_iff.1 h
  show (W.heap.modify B _)[B]? = _
  rw [Array.getElem?_eq_getElem (by rw [Array.size_modify]; exact hlt), Array.getElem_modify_self, hk]
  rfl
theorem Blk.other {W : World} {B B' : Nat} {vs : Array Value} {t : TypeId} (h : Blk W B vs t) (hne : B ≠ B') (i : Nat) (v : Value) : Blk (W.setCell ⟨B', i, none⟩ v) B vs t :=
  (Below.heap_setCell W ⟨B', i, none⟩ v B hne).trans h
end Go.Proofs.Ytadodccciejghaa
