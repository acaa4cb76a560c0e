/- What the form asks of every world gives the library's number. -/
import Derived.Test.YtfljnhmpelpdaaaLists
import Derived.Shelf.Vars
import Derived.HandedShaped
import Derived.KernelRfl
namespace Go.Proofs.Ytfljnhmpelpdaaa
theorem hx_of {W : World} (h : W.ShapedOpen Try.prog) : HX W := by
  obtain ⟨m, hm⟩ := cell_of_shapedOpen_int (g := 0) (t := 3) (zero := #[.int .i64 0]) (k := .i64) h (of_decide_eq_true (by kernel_rfl)) (by kernel_rfl) rfl (by kernel_rfl) (by kernel_rfl) Try.underlying3
  refine ⟨?_, m, hm⟩
  rcases Nat.eq_zero_or_pos W.heap.size with h0 | h1
  · simp [World.cell?, h0] at hm
  · exact h1
end Go.Proofs.Ytfljnhmpelpdaaa
