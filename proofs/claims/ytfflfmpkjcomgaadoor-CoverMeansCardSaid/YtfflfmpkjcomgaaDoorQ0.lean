import Derived.Test.YtfflfmpkjcomgaaDoorK27
import Derived.Test.YtfflfmpkjcomgaaDoorK21
namespace Go.Proofs.YtfflfmpkjcomgaaDoor
open Go.RowKit Go.WideMaps
theorem wf64 {n : Int} (h : inR .i64 n) : (Lit.int .i64 n).wf = true := by
  simp only [inR] at h
  show (decide (IntKind.i64.min ≤ n) && decide (n ≤ IntKind.i64.max)) = true
  rw [show IntKind.i64.min = -9223372036854775808 from by decide, show IntKind.i64.max = 9223372036854775807 from by decide, decide_eq_true h.1, decide_eq_true h.2]
  rfl
theorem lookO_dropL {l : List (Nat × O)} {id g : Nat} {x : O} {o : Nat → O} : obx (fun j => lookO (l ++ [(id, x)]) j (o j)) id ⟨g, .none⟩ = fun j => lookO ((id, ⟨g, .none⟩) :: l) j (o j) := funext fun j => by
  show (if j = id then _ else _) = if j = id then _ else _
  split
  · rfl
  · rename_i hj
    induction l with
    | nil => exact if_neg hj
    | cons p l ih => exact congrArg (fun z => if j = p.1 then p.2 else z) ih
end Go.Proofs.YtfflfmpkjcomgaaDoor
