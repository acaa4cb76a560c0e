import Derived.Test.YtbhoeanfnbkenaaDoorO6
import Derived.Test.YtbhoeanfnbkenaaDoorY6
namespace Go.Proofs.YtbhoeanfnbkenaaDoor
open Go.RowKit Go.WideShapes Go.ChangeShapes
variable {H : Type} {enc : TypeId × Value → H} {W : World} {Bw : Nat → Prop}
theorem o_bls : Opn enc Tryd.prog W Bw 49 (fun l : List Bool => [T.sl (bl l)]) (wfS Bw (fun _ => True) (Tryd.prog.bytesOf 4)) := opn_slice Tryd.underlying49 (z := 1) (by kernel_rfl) (by decide) (fun _ => rfl) o_bool
end Go.Proofs.YtbhoeanfnbkenaaDoor
