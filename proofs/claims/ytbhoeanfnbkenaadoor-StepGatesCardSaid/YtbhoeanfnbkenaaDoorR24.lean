import Derived.Test.YtbhoeanfnbkenaaDoorR22
namespace Go.Proofs.YtbhoeanfnbkenaaDoor
open Go.RowKit Go.WideMaps
set_option maxRecDepth 100000
set_option linter.unusedSimpArgs false
variable (Hy : World → Prop)
attribute [local irreducible] runM runD cwp seqQ blkQ lpQ retQ asQ bdQ bdY retP endR preD retD
end Go.Proofs.YtbhoeanfnbkenaaDoor
