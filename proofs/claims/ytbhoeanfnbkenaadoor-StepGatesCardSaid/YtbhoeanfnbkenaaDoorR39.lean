import Derived.Test.YtbhoeanfnbkenaaDoorR32
import Derived.Test.YtbhoeanfnbkenaaDoorR18
import Derived.Test.YtbhoeanfnbkenaaDoorR22
import Derived.Test.YtbhoeanfnbkenaaDoorR24
namespace Go.Proofs.YtbhoeanfnbkenaaDoor
open Go.RowKit
set_option maxRecDepth 100000
set_option linter.unusedSimpArgs false
variable (Hy : World → Prop)
attribute [local irreducible] runM runD cwp seqQ blkQ lpQ retQ asQ bdQ bdY retP endR preD retD
def ta : ByteArray := ⟨#[97]⟩
def tz : ByteArray := ⟨#[122]⟩
def ty : ByteArray := ⟨#[121]⟩
theorem room_small {c : Ci} (h1 : c.ins.length ≤ 1000) (h2 : c.outs.length ≤ 1000) (h3 : c.las.length ≤ 1000) (h4 : c.gts.length ≤ 1000) : CRoom c := ⟨by omega, by omega, by omega, by omega⟩
end Go.Proofs.YtbhoeanfnbkenaaDoor
