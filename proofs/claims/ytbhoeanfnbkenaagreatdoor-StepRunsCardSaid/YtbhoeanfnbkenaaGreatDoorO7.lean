import Derived.Test.YtbhoeanfnbkenaaGreatDoorO6
import Derived.Test.YtbhoeanfnbkenaaGreatDoorY6
namespace Go.Proofs.YtbhoeanfnbkenaaGreatDoor
open Go.RowKit Go.WideShapes Go.ChangeShapes
variable {H : Type} {enc : TypeId × Value → H} {W : World} {Bw : Nat → Prop}
theorem ziG : Opn enc Tryz.prog W Bw 27 (fun l : List Bool => [T.sl (bl l)]) (wfS Bw (fun _ => True) (Tryz.prog.bytesOf 4)) := zdG Tryz.underlying27 (z := 1) (by kernel_rfl) (by decide) (fun _ => rfl) zif
theorem zmy : Opn enc Tryz.prog W Bw 39 (fun l : List (List Bool) => [T.sl (bb l)]) (wfS Bw (wfS Bw (fun _ => True) (Tryz.prog.bytesOf 4)) (Tryz.prog.bytesOf 27)) := zdG Tryz.underlying39 (z := 1) (by kernel_rfl) (by decide) (fun _ => rfl) ziG
end Go.Proofs.YtbhoeanfnbkenaaGreatDoor
