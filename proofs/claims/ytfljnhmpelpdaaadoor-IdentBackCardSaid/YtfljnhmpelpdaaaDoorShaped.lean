/- What the form asks of every world gives the library's number. -/
import Derived.Test.YtfljnhmpelpdaaaDoorTkLists
import Derived.Shelf.Vars
import Derived.HandedShaped
import Derived.KernelRfl
namespace Go.Proofs.YtfljnhmpelpdaaaDoor
set_option maxRecDepth 100000
abbrev HX (w : World) : Prop := Tok.HX w
theorem hx_of {W : World} (h : W.ShapedOpen Tryd.prog) : HX W := by
  obtain ⟨m, hm⟩ := cell_of_shapedOpen_int (g := 1) (t := 3) (zero := #[.int .i64 0]) (k := .i64) h (of_decide_eq_true (by kernel_rfl)) (by kernel_rfl) rfl (by kernel_rfl) (by kernel_rfl) Tryd.underlying3
  refine ⟨?_, m, hm⟩
  by_cases h0 : 1 < W.heap.size
  · exact h0
  · have : W.heap[1]? = none := Array.getElem?_eq_none (by omega)
    simp [World.cell?, this] at hm
end Go.Proofs.YtfljnhmpelpdaaaDoor
