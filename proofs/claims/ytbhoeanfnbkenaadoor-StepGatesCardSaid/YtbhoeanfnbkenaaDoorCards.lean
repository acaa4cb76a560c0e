/-
  DERIVED. GIVEN WITH THE SEED: THE CARDS: each row of YtbhoeanfnbkenaaDoorRows.lean that lists a variable, with what it lists TIED to the program's text (the seventh form; the later family's looks); each row that meets fmt, with fmt's text TOLD by the authors' own Lean function (tested against real Go, not proved from fmt's source: count such statements apart). THE CARD IS WHAT COUNTS. Prove the row's statement (the work); the ties are given (YtbhoeanfnbkenaaDoorTie.lean); close each card by the builder's one call (the guide's Derived/Test/ToyasCard.lean, 'card_holds'). Laid BY PROGRAM, IN A SANDBOX (cutbox-door.mjs). By AI agents, Wed Nov 11 2026. No macro, syntax, notation, axiom, sorry.
-/
import Derived.Test.YtbhoeanfnbkenaaDoorRows
import GoSem.ClaimSeven
namespace Go.Proofs.YtbhoeanfnbkenaaDoor
namespace Rows

/-- THE TIED CARD OF 'patchbaylaw07.OrderTells'. -/
def orderTellsCard : Claim7 := { stood := { row := orderTellsRow, standIns := [], harness := (true, "9a87e9ae5ef5ee3a1c2d99dd9f3215c393d93ebea545c1f88c12d83a9647bdb1"), looks := true }, kinds := [], alts := [], laidByText := true, laidKinds := [.data, .pinned], laidTests := true, laidLooks := .later }
def OrderTellsCardSaid : Prop := Claim7.holds Tryd.pinned (.plain (OpenSpec.ofChange orderTellsSpec)) orderTellsCard

/-- THE TIED CARD OF 'patchbaylaw07.OrderCones'. -/
def orderConesCard : Claim7 := { stood := { row := orderConesRow, standIns := [], harness := (true, "9a87e9ae5ef5ee3a1c2d99dd9f3215c393d93ebea545c1f88c12d83a9647bdb1"), looks := true }, kinds := [], alts := [], laidByText := true, laidKinds := [.data, .pinned], laidTests := true, laidLooks := .later }
def OrderConesCardSaid : Prop := Claim7.holds Tryd.pinned (.plain (OpenSpec.ofChange orderConesSpec)) orderConesCard

/-- THE TIED CARD OF 'patchbaylaw07.OrderWaits'. -/
def orderWaitsCard : Claim7 := { stood := { row := orderWaitsRow, standIns := [], harness := (true, "9a87e9ae5ef5ee3a1c2d99dd9f3215c393d93ebea545c1f88c12d83a9647bdb1"), looks := true }, kinds := [], alts := [], laidByText := true, laidKinds := [.data, .pinned], laidTests := true, laidLooks := .later }
def OrderWaitsCardSaid : Prop := Claim7.holds Tryd.pinned (.plain (OpenSpec.ofChange orderWaitsSpec)) orderWaitsCard

/-- THE TIED CARD OF 'patchbaylaw07.OrderRises'. -/
def orderRisesCard : Claim7 := { stood := { row := orderRisesRow, standIns := [], harness := (true, "9a87e9ae5ef5ee3a1c2d99dd9f3215c393d93ebea545c1f88c12d83a9647bdb1"), looks := true }, kinds := [], alts := [], laidByText := true, laidKinds := [.data, .pinned], laidTests := true, laidLooks := .later }
def OrderRisesCardSaid : Prop := Claim7.holds Tryd.pinned (.plain (OpenSpec.ofChange orderRisesSpec)) orderRisesCard

/-- THE TIED CARD OF 'patchbaylaw07.OrderLevels'. -/
def orderLevelsCard : Claim7 := { stood := { row := orderLevelsRow, standIns := [], harness := (true, "9a87e9ae5ef5ee3a1c2d99dd9f3215c393d93ebea545c1f88c12d83a9647bdb1"), looks := true }, kinds := [], alts := [], laidByText := true, laidKinds := [.data, .pinned], laidTests := true, laidLooks := .later }
def OrderLevelsCardSaid : Prop := Claim7.holds Tryd.pinned (.plain (OpenSpec.ofChange orderLevelsSpec)) orderLevelsCard

/-- THE TIED CARD OF 'patchbaylaw07.OrderTrims'. -/
def orderTrimsCard : Claim7 := { stood := { row := orderTrimsRow, standIns := [], harness := (true, "9a87e9ae5ef5ee3a1c2d99dd9f3215c393d93ebea545c1f88c12d83a9647bdb1"), looks := true }, kinds := [], alts := [], laidByText := true, laidKinds := [.data, .pinned], laidTests := true, laidLooks := .later }
def OrderTrimsCardSaid : Prop := Claim7.holds Tryd.pinned (.plain (OpenSpec.ofChange orderTrimsSpec)) orderTrimsCard

/-- THE TIED CARD OF 'patchbaylaw08.StepGates'. -/
def stepGatesCard : Claim7 := { stood := { row := stepGatesRow, standIns := [], harness := (true, "9a87e9ae5ef5ee3a1c2d99dd9f3215c393d93ebea545c1f88c12d83a9647bdb1"), looks := true }, kinds := [], alts := [], laidByText := true, laidKinds := [.data, .pinned], laidTests := true, laidLooks := .later }
def StepGatesCardSaid : Prop := Claim7.holds Tryd.pinned (.plain (OpenSpec.ofChange stepGatesSpec)) stepGatesCard

/-- THE TIED CARD OF 'patchbaylaw08.StepSame'. -/
def stepSameCard : Claim7 := { stood := { row := stepSameRow, standIns := [], harness := (true, "9a87e9ae5ef5ee3a1c2d99dd9f3215c393d93ebea545c1f88c12d83a9647bdb1"), looks := true }, kinds := [], alts := [], laidByText := true, laidKinds := [.data, .pinned], laidTests := true, laidLooks := .later }
def StepSameCardSaid : Prop := Claim7.holds Tryd.pinned (.plain (OpenSpec.ofChange stepSameSpec)) stepSameCard

/-- THE TIED CARD OF 'patchbaylaw08.StepStarts'. -/
def stepStartsCard : Claim7 := { stood := { row := stepStartsRow, standIns := [], harness := (true, "9a87e9ae5ef5ee3a1c2d99dd9f3215c393d93ebea545c1f88c12d83a9647bdb1"), looks := true }, kinds := [], alts := [], laidByText := true, laidKinds := [.data, .pinned], laidTests := true, laidLooks := .later }
def StepStartsCardSaid : Prop := Claim7.holds Tryd.pinned (.plain (OpenSpec.ofChange stepStartsSpec)) stepStartsCard

/-- THE SECOND FORM's CARD OF 'patchbaylaw07.OrderTells'. -/
def orderTellsUptoCard : Claim7 := { stood := { row := orderTellsUptoRow, standIns := [], harness := (true, "9a87e9ae5ef5ee3a1c2d99dd9f3215c393d93ebea545c1f88c12d83a9647bdb1"), looks := true }, kinds := [], alts := [], laidByText := true, laidKinds := [.data, .pinned], laidTests := true, laidLooks := .later }
def OrderTellsUptoCardSaid : Prop := Claim7.holds Tryd.pinned (.plain (OpenSpec.upto orderTellsSpec)) orderTellsUptoCard

/-- THE SECOND FORM's CARD OF 'patchbaylaw07.OrderCones'. -/
def orderConesUptoCard : Claim7 := { stood := { row := orderConesUptoRow, standIns := [], harness := (true, "9a87e9ae5ef5ee3a1c2d99dd9f3215c393d93ebea545c1f88c12d83a9647bdb1"), looks := true }, kinds := [], alts := [], laidByText := true, laidKinds := [.data, .pinned], laidTests := true, laidLooks := .later }
def OrderConesUptoCardSaid : Prop := Claim7.holds Tryd.pinned (.plain (OpenSpec.upto orderConesSpec)) orderConesUptoCard

/-- THE SECOND FORM's CARD OF 'patchbaylaw07.OrderWaits'. -/
def orderWaitsUptoCard : Claim7 := { stood := { row := orderWaitsUptoRow, standIns := [], harness := (true, "9a87e9ae5ef5ee3a1c2d99dd9f3215c393d93ebea545c1f88c12d83a9647bdb1"), looks := true }, kinds := [], alts := [], laidByText := true, laidKinds := [.data, .pinned], laidTests := true, laidLooks := .later }
def OrderWaitsUptoCardSaid : Prop := Claim7.holds Tryd.pinned (.plain (OpenSpec.upto orderWaitsSpec)) orderWaitsUptoCard

/-- THE SECOND FORM's CARD OF 'patchbaylaw07.OrderRises'. -/
def orderRisesUptoCard : Claim7 := { stood := { row := orderRisesUptoRow, standIns := [], harness := (true, "9a87e9ae5ef5ee3a1c2d99dd9f3215c393d93ebea545c1f88c12d83a9647bdb1"), looks := true }, kinds := [], alts := [], laidByText := true, laidKinds := [.data, .pinned], laidTests := true, laidLooks := .later }
def OrderRisesUptoCardSaid : Prop := Claim7.holds Tryd.pinned (.plain (OpenSpec.upto orderRisesSpec)) orderRisesUptoCard

/-- THE SECOND FORM's CARD OF 'patchbaylaw07.OrderLevels'. -/
def orderLevelsUptoCard : Claim7 := { stood := { row := orderLevelsUptoRow, standIns := [], harness := (true, "9a87e9ae5ef5ee3a1c2d99dd9f3215c393d93ebea545c1f88c12d83a9647bdb1"), looks := true }, kinds := [], alts := [], laidByText := true, laidKinds := [.data, .pinned], laidTests := true, laidLooks := .later }
def OrderLevelsUptoCardSaid : Prop := Claim7.holds Tryd.pinned (.plain (OpenSpec.upto orderLevelsSpec)) orderLevelsUptoCard

/-- THE SECOND FORM's CARD OF 'patchbaylaw07.OrderTrims'. -/
def orderTrimsUptoCard : Claim7 := { stood := { row := orderTrimsUptoRow, standIns := [], harness := (true, "9a87e9ae5ef5ee3a1c2d99dd9f3215c393d93ebea545c1f88c12d83a9647bdb1"), looks := true }, kinds := [], alts := [], laidByText := true, laidKinds := [.data, .pinned], laidTests := true, laidLooks := .later }
def OrderTrimsUptoCardSaid : Prop := Claim7.holds Tryd.pinned (.plain (OpenSpec.upto orderTrimsSpec)) orderTrimsUptoCard

/-- THE SECOND FORM's CARD OF 'patchbaylaw08.StepGates'. -/
def stepGatesUptoCard : Claim7 := { stood := { row := stepGatesUptoRow, standIns := [], harness := (true, "9a87e9ae5ef5ee3a1c2d99dd9f3215c393d93ebea545c1f88c12d83a9647bdb1"), looks := true }, kinds := [], alts := [], laidByText := true, laidKinds := [.data, .pinned], laidTests := true, laidLooks := .later }
def StepGatesUptoCardSaid : Prop := Claim7.holds Tryd.pinned (.plain (OpenSpec.upto stepGatesSpec)) stepGatesUptoCard

/-- THE SECOND FORM's CARD OF 'patchbaylaw08.StepSame'. -/
def stepSameUptoCard : Claim7 := { stood := { row := stepSameUptoRow, standIns := [], harness := (true, "9a87e9ae5ef5ee3a1c2d99dd9f3215c393d93ebea545c1f88c12d83a9647bdb1"), looks := true }, kinds := [], alts := [], laidByText := true, laidKinds := [.data, .pinned], laidTests := true, laidLooks := .later }
def StepSameUptoCardSaid : Prop := Claim7.holds Tryd.pinned (.plain (OpenSpec.upto stepSameSpec)) stepSameUptoCard

/-- THE SECOND FORM's CARD OF 'patchbaylaw08.StepStarts'. -/
def stepStartsUptoCard : Claim7 := { stood := { row := stepStartsUptoRow, standIns := [], harness := (true, "9a87e9ae5ef5ee3a1c2d99dd9f3215c393d93ebea545c1f88c12d83a9647bdb1"), looks := true }, kinds := [], alts := [], laidByText := true, laidKinds := [.data, .pinned], laidTests := true, laidLooks := .later }
def StepStartsUptoCardSaid : Prop := Claim7.holds Tryd.pinned (.plain (OpenSpec.upto stepStartsSpec)) stepStartsUptoCard
end Rows
end Go.Proofs.YtbhoeanfnbkenaaDoor
