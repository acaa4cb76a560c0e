/-
  DERIVED. GIVEN WITH THE SEED: THE CARDS: each row of YtfflfmpkjcomgaaDoorRows.lean that lists a variable, with what it lists TIED to the program's text (the seventh form; the later family's looks); each row that meets fmt, with fmt's text TOLD by the authors' own Lean function (tested against real Go, not proved from fmt's source: count such statements apart). THE CARD IS WHAT COUNTS. Prove the row's statement (the work); the ties are given (YtfflfmpkjcomgaaDoorTie.lean); close each card by the builder's one call (the guide's Derived/Test/ToyasCard.lean, 'card_holds'). Laid BY PROGRAM, IN A SANDBOX (cutbox-door.mjs). By AI agents, Wed Nov 11 2026. No macro, syntax, notation, axiom, sorry.
-/
import Derived.Test.YtfflfmpkjcomgaaDoorRows
import GoSem.ClaimSeven
namespace Go.Proofs.YtfflfmpkjcomgaaDoor
namespace Rows

/-- THE TIED CARD OF 'patchbaylaw10.CoverFactors'. -/
def coverFactorsCard : Claim7 := { stood := { row := coverFactorsRow, standIns := [], harness := (true, "76099a64f169cb1e081a49effa6808722899d7618da4bf12282c15173a6c3e63"), looks := true }, kinds := [], alts := [], laidByText := true, laidKinds := [.data, .pinned], laidTests := true, laidLooks := .later }
def CoverFactorsCardSaid : Prop := Claim7.holds Tryd.pinned (.plain (OpenSpec.ofChange coverFactorsSpec)) coverFactorsCard

/-- THE TIED CARD OF 'patchbaylaw10.CoverForms'. -/
def coverFormsCard : Claim7 := { stood := { row := coverFormsRow, standIns := [], harness := (true, "76099a64f169cb1e081a49effa6808722899d7618da4bf12282c15173a6c3e63"), looks := true }, kinds := [], alts := [], laidByText := true, laidKinds := [.data, .pinned], laidTests := true, laidLooks := .later }
def CoverFormsCardSaid : Prop := Claim7.holds Tryd.pinned (.plain (OpenSpec.ofChange coverFormsSpec)) coverFormsCard

/-- THE TIED CARD OF 'patchbaylaw10.CoverMeans'. -/
def coverMeansCard : Claim7 := { stood := { row := coverMeansRow, standIns := [], harness := (true, "76099a64f169cb1e081a49effa6808722899d7618da4bf12282c15173a6c3e63"), looks := true }, kinds := [], alts := [], laidByText := true, laidKinds := [.data, .pinned], laidTests := true, laidLooks := .later }
def CoverMeansCardSaid : Prop := Claim7.holds Tryd.pinned (.plain (OpenSpec.ofChange coverMeansSpec)) coverMeansCard

/-- THE TIED CARD OF 'patchbaylaw10.CoverLess'. -/
def coverLessCard : Claim7 := { stood := { row := coverLessRow, standIns := [], harness := (true, "76099a64f169cb1e081a49effa6808722899d7618da4bf12282c15173a6c3e63"), looks := true }, kinds := [], alts := [], laidByText := true, laidKinds := [.data, .pinned], laidTests := true, laidLooks := .later }
def CoverLessCardSaid : Prop := Claim7.holds Tryd.pinned (.plain (OpenSpec.ofChange coverLessSpec)) coverLessCard

/-- THE TIED CARD OF 'patchbaylaw10.CoverRows'. -/
def coverRowsCard : Claim7 := { stood := { row := coverRowsRow, standIns := [], harness := (true, "76099a64f169cb1e081a49effa6808722899d7618da4bf12282c15173a6c3e63"), looks := true }, kinds := [], alts := [], laidByText := true, laidKinds := [.data, .pinned], laidTests := true, laidLooks := .later }
def CoverRowsCardSaid : Prop := Claim7.holds Tryd.pinned (.plain (OpenSpec.ofChange coverRowsSpec)) coverRowsCard

/-- THE SECOND FORM's CARD OF 'patchbaylaw10.CoverFactors'. -/
def coverFactorsUptoCard : Claim7 := { stood := { row := coverFactorsUptoRow, standIns := [], harness := (true, "76099a64f169cb1e081a49effa6808722899d7618da4bf12282c15173a6c3e63"), looks := true }, kinds := [], alts := [], laidByText := true, laidKinds := [.data, .pinned], laidTests := true, laidLooks := .later }
def CoverFactorsUptoCardSaid : Prop := Claim7.holds Tryd.pinned (.plain (OpenSpec.upto coverFactorsSpec)) coverFactorsUptoCard

/-- THE SECOND FORM's CARD OF 'patchbaylaw10.CoverForms'. -/
def coverFormsUptoCard : Claim7 := { stood := { row := coverFormsUptoRow, standIns := [], harness := (true, "76099a64f169cb1e081a49effa6808722899d7618da4bf12282c15173a6c3e63"), looks := true }, kinds := [], alts := [], laidByText := true, laidKinds := [.data, .pinned], laidTests := true, laidLooks := .later }
def CoverFormsUptoCardSaid : Prop := Claim7.holds Tryd.pinned (.plain (OpenSpec.upto coverFormsSpec)) coverFormsUptoCard

/-- THE SECOND FORM's CARD OF 'patchbaylaw10.CoverMeans'. -/
def coverMeansUptoCard : Claim7 := { stood := { row := coverMeansUptoRow, standIns := [], harness := (true, "76099a64f169cb1e081a49effa6808722899d7618da4bf12282c15173a6c3e63"), looks := true }, kinds := [], alts := [], laidByText := true, laidKinds := [.data, .pinned], laidTests := true, laidLooks := .later }
def CoverMeansUptoCardSaid : Prop := Claim7.holds Tryd.pinned (.plain (OpenSpec.upto coverMeansSpec)) coverMeansUptoCard

/-- THE SECOND FORM's CARD OF 'patchbaylaw10.CoverLess'. -/
def coverLessUptoCard : Claim7 := { stood := { row := coverLessUptoRow, standIns := [], harness := (true, "76099a64f169cb1e081a49effa6808722899d7618da4bf12282c15173a6c3e63"), looks := true }, kinds := [], alts := [], laidByText := true, laidKinds := [.data, .pinned], laidTests := true, laidLooks := .later }
def CoverLessUptoCardSaid : Prop := Claim7.holds Tryd.pinned (.plain (OpenSpec.upto coverLessSpec)) coverLessUptoCard

/-- THE SECOND FORM's CARD OF 'patchbaylaw10.CoverRows'. -/
def coverRowsUptoCard : Claim7 := { stood := { row := coverRowsUptoRow, standIns := [], harness := (true, "76099a64f169cb1e081a49effa6808722899d7618da4bf12282c15173a6c3e63"), looks := true }, kinds := [], alts := [], laidByText := true, laidKinds := [.data, .pinned], laidTests := true, laidLooks := .later }
def CoverRowsUptoCardSaid : Prop := Claim7.holds Tryd.pinned (.plain (OpenSpec.upto coverRowsSpec)) coverRowsUptoCard
end Rows
end Go.Proofs.YtfflfmpkjcomgaaDoor
