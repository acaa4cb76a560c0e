/-
  No cell of these rows narrows 'for every input' (looked for: loops, veiled, ifaces, maps, wideKeys, modest, calm, conditions, laid).
  DERIVED. THE GIVEN ROWS OF THIS SEAT. 6 by the template 'for every input the law returns true; each argument reads behind the call as it read before'; 0 by the template 'total and deterministic' (their statements: YtkemaaohmfdhbaaTotals.lean).
  GIVEN WITH THE SEED: the statements are not yours to turn. If you find one false, say at which input.
  Laid BY PROGRAM, IN A SANDBOX (cutbox-rows.mjs): the forced cells as the released guide's own fill.sh prints them over the translation abeb9242e043d8c9… (all of the seat's roots in one cut). By AI agents, Wed Nov 11 2026. No macro, syntax, notation, axiom, sorry.
-/
import Derived.Test.YtkemaaohmfdhbaaChecked
import GoSem.Claim
import GoSem.ClaimJoined
import GoSem.ClaimMapViews
import Derived.JoinedTies
import Derived.KernelRfl
namespace Go.Proofs.Ytkemaaohmfdhbaa
/- THE CELL 'sum', in the pinned program and in every row, IS THE sha256 OF THE DUMP (.gsa) THAT YtkemaaohmfdhbaaProg.lean LOADS. Nothing in Lean hashes anything: it is a label: what it is worth is what the hold of that sum in a sandbox is worth. -/
noncomputable def Try.pinned : Pinned := { name := "ytkemaaohmfdhbaa", sum := "abeb9242e043d8c9c57e40eb0935b246e92b8d55ff1899556a501d800a9f920b", checked := Try.checked }
namespace Rows
def none {H : Type} : Left H := { results := [], args := [] }

/-- 'patchbaylaw01.SpotPlaces': WHATEVER THE INPUT: true; the input reads as it did. -/
def spotPlacesSpec : ChangeSpec := { name := "spotPlaces", fn := fun _ => fun
  | [d1, d2, d3, d4, d5] => { results := [.lit (.bool true)], args := [d1, d2, d3, d4, d5] }
  | _ => none }
def spotPlacesRow : OpenClaim := { program := "ytkemaaohmfdhbaa", sum := "abeb9242e043d8c9c57e40eb0935b246e92b8d55ff1899556a501d800a9f920b", func := "patchbay/patchbaylaw01.SpotPlaces", spec := "spotPlaces", inPlace := ["internal/bytealg.IndexByteString"], unfollowed := true, recurses := true, apart := false }
def SpotPlacesSaid : Prop := spotPlacesRow.holds Try.pinned (OpenSpec.ofChange spotPlacesSpec)

/-- ITS FALSE NEIGHBOUR: 'it returns false'. Refute it at one input. -/
def spotPlacesWrong : ChangeSpec := { name := "spotPlaces", fn := fun _ => fun
  | [d1, d2, d3, d4, d5] => { results := [.lit (.bool false)], args := [d1, d2, d3, d4, d5] }
  | _ => none }
def SpotPlacesWrongFalsely : Prop := spotPlacesRow.holds Try.pinned (OpenSpec.ofChange spotPlacesWrong)

/-- 'patchbaylaw01.SpotLines': WHATEVER THE INPUT: true; the input reads as it did. -/
def spotLinesSpec : ChangeSpec := { name := "spotLines", fn := fun _ => fun
  | [d] => { results := [.lit (.bool true)], args := [d] }
  | _ => none }
def spotLinesRow : OpenClaim := { program := "ytkemaaohmfdhbaa", sum := "abeb9242e043d8c9c57e40eb0935b246e92b8d55ff1899556a501d800a9f920b", func := "patchbay/patchbaylaw01.SpotLines", spec := "spotLines", inPlace := ["internal/bytealg.IndexByteString"], unfollowed := true, recurses := true, apart := false }
def SpotLinesSaid : Prop := spotLinesRow.holds Try.pinned (OpenSpec.ofChange spotLinesSpec)

/-- ITS FALSE NEIGHBOUR: 'it returns false'. Refute it at one input. -/
def spotLinesWrong : ChangeSpec := { name := "spotLines", fn := fun _ => fun
  | [d] => { results := [.lit (.bool false)], args := [d] }
  | _ => none }
def SpotLinesWrongFalsely : Prop := spotLinesRow.holds Try.pinned (OpenSpec.ofChange spotLinesWrong)

/-- 'patchbaylaw01.SpotBack': WHATEVER THE INPUT: true; the input reads as it did. -/
def spotBackSpec : ChangeSpec := { name := "spotBack", fn := fun _ => fun
  | [d1, d2] => { results := [.lit (.bool true)], args := [d1, d2] }
  | _ => none }
def spotBackRow : OpenClaim := { program := "ytkemaaohmfdhbaa", sum := "abeb9242e043d8c9c57e40eb0935b246e92b8d55ff1899556a501d800a9f920b", func := "patchbay/patchbaylaw01.SpotBack", spec := "spotBack", inPlace := ["internal/bytealg.IndexByteString"], unfollowed := true, recurses := true, apart := false }
def SpotBackSaid : Prop := spotBackRow.holds Try.pinned (OpenSpec.ofChange spotBackSpec)

/-- ITS FALSE NEIGHBOUR: 'it returns false'. Refute it at one input. -/
def spotBackWrong : ChangeSpec := { name := "spotBack", fn := fun _ => fun
  | [d1, d2] => { results := [.lit (.bool false)], args := [d1, d2] }
  | _ => none }
def SpotBackWrongFalsely : Prop := spotBackRow.holds Try.pinned (OpenSpec.ofChange spotBackWrong)

/-- 'patchbaylaw01.SpotOrder': WHATEVER THE INPUT: true; the input reads as it did. -/
def spotOrderSpec : ChangeSpec := { name := "spotOrder", fn := fun _ => fun
  | [d1, d2, d3] => { results := [.lit (.bool true)], args := [d1, d2, d3] }
  | _ => none }
def spotOrderRow : OpenClaim := { program := "ytkemaaohmfdhbaa", sum := "abeb9242e043d8c9c57e40eb0935b246e92b8d55ff1899556a501d800a9f920b", func := "patchbay/patchbaylaw01.SpotOrder", spec := "spotOrder", inPlace := ["internal/bytealg.IndexByteString"], unfollowed := true, recurses := true, apart := false }
def SpotOrderSaid : Prop := spotOrderRow.holds Try.pinned (OpenSpec.ofChange spotOrderSpec)

/-- ITS FALSE NEIGHBOUR: 'it returns false'. Refute it at one input. -/
def spotOrderWrong : ChangeSpec := { name := "spotOrder", fn := fun _ => fun
  | [d1, d2, d3] => { results := [.lit (.bool false)], args := [d1, d2, d3] }
  | _ => none }
def SpotOrderWrongFalsely : Prop := spotOrderRow.holds Try.pinned (OpenSpec.ofChange spotOrderWrong)

/-- 'patchbaylaw01.SpotMoves': WHATEVER THE INPUT: true; the input reads as it did. -/
def spotMovesSpec : ChangeSpec := { name := "spotMoves", fn := fun _ => fun
  | [d1, d2, d3, d4] => { results := [.lit (.bool true)], args := [d1, d2, d3, d4] }
  | _ => none }
def spotMovesRow : OpenClaim := { program := "ytkemaaohmfdhbaa", sum := "abeb9242e043d8c9c57e40eb0935b246e92b8d55ff1899556a501d800a9f920b", func := "patchbay/patchbaylaw01.SpotMoves", spec := "spotMoves", inPlace := ["internal/bytealg.IndexByteString"], unfollowed := true, recurses := true, apart := false }
def SpotMovesSaid : Prop := spotMovesRow.holds Try.pinned (OpenSpec.ofChange spotMovesSpec)

/-- ITS FALSE NEIGHBOUR: 'it returns false'. Refute it at one input. -/
def spotMovesWrong : ChangeSpec := { name := "spotMoves", fn := fun _ => fun
  | [d1, d2, d3, d4] => { results := [.lit (.bool false)], args := [d1, d2, d3, d4] }
  | _ => none }
def SpotMovesWrongFalsely : Prop := spotMovesRow.holds Try.pinned (OpenSpec.ofChange spotMovesWrong)

/-- 'patchbaylaw01.SpotEnds': WHATEVER THE INPUT: true; the input reads as it did. -/
def spotEndsSpec : ChangeSpec := { name := "spotEnds", fn := fun _ => fun
  | [d1, d2, d3] => { results := [.lit (.bool true)], args := [d1, d2, d3] }
  | _ => none }
def spotEndsRow : OpenClaim := { program := "ytkemaaohmfdhbaa", sum := "abeb9242e043d8c9c57e40eb0935b246e92b8d55ff1899556a501d800a9f920b", func := "patchbay/patchbaylaw01.SpotEnds", spec := "spotEnds", inPlace := ["internal/bytealg.IndexByteString"], unfollowed := true, recurses := true, apart := false }
def SpotEndsSaid : Prop := spotEndsRow.holds Try.pinned (OpenSpec.ofChange spotEndsSpec)

/-- ITS FALSE NEIGHBOUR: 'it returns false'. Refute it at one input. -/
def spotEndsWrong : ChangeSpec := { name := "spotEnds", fn := fun _ => fun
  | [d1, d2, d3] => { results := [.lit (.bool false)], args := [d1, d2, d3] }
  | _ => none }
def SpotEndsWrongFalsely : Prop := spotEndsRow.holds Try.pinned (OpenSpec.ofChange spotEndsWrong)

/- THE SECOND FORM. 'bulk': how many values and letters a reading holds, each counted each time it is reached (what is shared counts as often as it is met; a slice's spare places count too). A statement '..UptoSaid' is the law's where the arguments, and the package variables that the reading takes, are together of bulk at most 1048576: NARROWER than '..Said'. Prove '..Said' where nothing that the law and all that it calls make is longer than what came in: it says more and counts as full. Else prove '..UptoSaid'. A law counts once. -/
mutual
def uptoBulk {H : Type} : DataW H → Nat
  | .lit (.string bytes) => bytes.length + 1
  | .lit _ => 1
  | .nil => 1
  | .ptr d => uptoBulk d + 1
  | .slice elems spare => uptoBulkAll elems + uptoBulkAll spare + 1
  | .agg parts => uptoBulkAll parts + 1
  | .iface _ d => uptoBulk d + 1
  | .map entries => uptoBulkEntries entries + 1
  | .held _ => 1
def uptoBulkAll {H : Type} : List (DataW H) → Nat
  | [] => 0
  | d :: r => uptoBulk d + uptoBulkAll r
def uptoBulkEntries {H : Type} : List (Lit × DataW H) → Nat
  | [] => 0
  | x :: r => uptoBulkEntry x + uptoBulkEntries r
def uptoBulkEntry {H : Type} : Lit × DataW H → Nat
  | (.string bytes, d) => bytes.length + uptoBulk d + 1
  | (_, d) => uptoBulk d + 1
 end
def uptoSmall : (H : Type) → List (DataW H) → Bool := fun _ ds => decide (uptoBulkAll ds ≤ 1048576)
def OpenSpec.upto (s : _root_.Go.ChangeSpec) : _root_.Go.OpenSpec := { _root_.Go.OpenSpec.ofChange s with cond := some uptoSmall }

/-- 'patchbaylaw01.SpotPlaces', WHERE WHAT IT READS IS OF BULK AT MOST 1048576: true; the input reads as it did. -/
def spotPlacesUptoRow : OpenClaim := { program := "ytkemaaohmfdhbaa", sum := "abeb9242e043d8c9c57e40eb0935b246e92b8d55ff1899556a501d800a9f920b", func := "patchbay/patchbaylaw01.SpotPlaces", spec := "spotPlaces", inPlace := ["internal/bytealg.IndexByteString"], unfollowed := true, recurses := true, apart := false, narrowed := true }
def SpotPlacesUptoSaid : Prop := spotPlacesUptoRow.holds Try.pinned (OpenSpec.upto spotPlacesSpec)

/-- 'patchbaylaw01.SpotLines', WHERE WHAT IT READS IS OF BULK AT MOST 1048576: true; the input reads as it did. -/
def spotLinesUptoRow : OpenClaim := { program := "ytkemaaohmfdhbaa", sum := "abeb9242e043d8c9c57e40eb0935b246e92b8d55ff1899556a501d800a9f920b", func := "patchbay/patchbaylaw01.SpotLines", spec := "spotLines", inPlace := ["internal/bytealg.IndexByteString"], unfollowed := true, recurses := true, apart := false, narrowed := true }
def SpotLinesUptoSaid : Prop := spotLinesUptoRow.holds Try.pinned (OpenSpec.upto spotLinesSpec)

/-- 'patchbaylaw01.SpotBack', WHERE WHAT IT READS IS OF BULK AT MOST 1048576: true; the input reads as it did. -/
def spotBackUptoRow : OpenClaim := { program := "ytkemaaohmfdhbaa", sum := "abeb9242e043d8c9c57e40eb0935b246e92b8d55ff1899556a501d800a9f920b", func := "patchbay/patchbaylaw01.SpotBack", spec := "spotBack", inPlace := ["internal/bytealg.IndexByteString"], unfollowed := true, recurses := true, apart := false, narrowed := true }
def SpotBackUptoSaid : Prop := spotBackUptoRow.holds Try.pinned (OpenSpec.upto spotBackSpec)

/-- 'patchbaylaw01.SpotOrder', WHERE WHAT IT READS IS OF BULK AT MOST 1048576: true; the input reads as it did. -/
def spotOrderUptoRow : OpenClaim := { program := "ytkemaaohmfdhbaa", sum := "abeb9242e043d8c9c57e40eb0935b246e92b8d55ff1899556a501d800a9f920b", func := "patchbay/patchbaylaw01.SpotOrder", spec := "spotOrder", inPlace := ["internal/bytealg.IndexByteString"], unfollowed := true, recurses := true, apart := false, narrowed := true }
def SpotOrderUptoSaid : Prop := spotOrderUptoRow.holds Try.pinned (OpenSpec.upto spotOrderSpec)

/-- 'patchbaylaw01.SpotMoves', WHERE WHAT IT READS IS OF BULK AT MOST 1048576: true; the input reads as it did. -/
def spotMovesUptoRow : OpenClaim := { program := "ytkemaaohmfdhbaa", sum := "abeb9242e043d8c9c57e40eb0935b246e92b8d55ff1899556a501d800a9f920b", func := "patchbay/patchbaylaw01.SpotMoves", spec := "spotMoves", inPlace := ["internal/bytealg.IndexByteString"], unfollowed := true, recurses := true, apart := false, narrowed := true }
def SpotMovesUptoSaid : Prop := spotMovesUptoRow.holds Try.pinned (OpenSpec.upto spotMovesSpec)

/-- 'patchbaylaw01.SpotEnds', WHERE WHAT IT READS IS OF BULK AT MOST 1048576: true; the input reads as it did. -/
def spotEndsUptoRow : OpenClaim := { program := "ytkemaaohmfdhbaa", sum := "abeb9242e043d8c9c57e40eb0935b246e92b8d55ff1899556a501d800a9f920b", func := "patchbay/patchbaylaw01.SpotEnds", spec := "spotEnds", inPlace := ["internal/bytealg.IndexByteString"], unfollowed := true, recurses := true, apart := false, narrowed := true }
def SpotEndsUptoSaid : Prop := spotEndsUptoRow.holds Try.pinned (OpenSpec.upto spotEndsSpec)

end Rows
end Go.Proofs.Ytkemaaohmfdhbaa
