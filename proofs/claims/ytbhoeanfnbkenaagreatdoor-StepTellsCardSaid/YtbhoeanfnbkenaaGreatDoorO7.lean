import Derived.Test.YtbhoeanfnbkenaaGreatDoorO6
import Derived.Test.YtbhoeanfnbkenaaGreatDoorY6
namespace Go.Proofs.YtbhoeanfnbkenaaGreatDoor
open Go.RowKit Go.WideShapes Go.ChangeShapes
variable {H : Type} {enc : TypeId × Value → H} {W : World} {Bw : Nat → Prop}
theorem zfR : Opn enc Tryz.prog W Bw 27 (fun l : List Bool => [T.sl (bl l)]) (wfS Bw (fun _ => True) (Tryz.prog.bytesOf 4)) := zd8 Tryz.underlying27 (z := 1) (by kernel_rfl) (by decide) (fun _ => rfl) zid
end Go.Proofs.YtbhoeanfnbkenaaGreatDoor
