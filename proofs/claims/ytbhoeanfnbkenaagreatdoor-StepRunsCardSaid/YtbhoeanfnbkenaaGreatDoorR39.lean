import Derived.Test.YtbhoeanfnbkenaaGreatDoorR32
import Derived.Test.YtbhoeanfnbkenaaGreatDoorR18
import Derived.Test.YtbhoeanfnbkenaaGreatDoorR22
import Derived.Test.YtbhoeanfnbkenaaGreatDoorR24
namespace Go.Proofs.YtbhoeanfnbkenaaGreatDoor
open Go.RowKit
set_option maxRecDepth 100000
set_option linter.unusedSimpArgs false
variable (Hy : World → Prop)
attribute [local irreducible] zU zY cwp z1 z6 lpQ z8 asQ bdQ bdY zab zac zad zaa
def ta : ByteArray := ⟨#[97]⟩
def tz : ByteArray := ⟨#[122]⟩
def ty : ByteArray := ⟨#[121]⟩
theorem zjp {c : Ci} (h1 : c.ins.length ≤ 1000) (h2 : c.outs.length ≤ 1000) (h3 : c.las.length ≤ 1000) (h4 : c.gts.length ≤ 1000) : CRoom c := ⟨by omega, by omega, by omega, by omega⟩
end Go.Proofs.YtbhoeanfnbkenaaGreatDoor
