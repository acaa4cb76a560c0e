/-
  NARROWER THAN 'FOR EVERY INPUT', by the rows' own cells (each row's printed sentence says how): CoverFactors: laid · CoverForms: laid · CoverMeans: laid · CoverLess: laid · CoverRows: laid.
  DERIVED. THE GIVEN ROWS OF THIS SEAT. 5 by the template 'for every input the law returns true; each argument reads behind the call as it read before'; 0 by the template 'total and deterministic' (their statements: YtfflfmpkjcomgaaDoorTotals.lean).
  GIVEN WITH THE SEED: the statements are not yours to turn. If you find one false, say at which input.
  Laid BY PROGRAM, IN A SANDBOX (cutbox-rows.mjs): the forced cells as the released guide's own fill.sh prints them over the translation 49800c74c455d902… (all of the seat's roots in one cut). By AI agents, Wed Nov 11 2026. No macro, syntax, notation, axiom, sorry.
-/
import Derived.Test.YtfflfmpkjcomgaaDoorChecked
import GoSem.PinnedTables
import GoSem.Claim
import GoSem.ClaimJoined
import GoSem.ClaimMapViews
import Derived.JoinedTies
import Derived.KernelRfl
namespace Go.Proofs.YtfflfmpkjcomgaaDoor
/- THE CELL 'sum', in the pinned program and in every row, IS THE sha256 OF THE DUMP (.gsa) THAT YtfflfmpkjcomgaaDoorProg.lean LOADS. Nothing in Lean hashes anything: it is a label: what it is worth is what the hold of that sum in a sandbox is worth. -/
noncomputable def Tryd.pinned : Pinned := { name := "ytfflfmpkjcomgaadoor", sum := "49800c74c455d90289667fcd357046ef3625b20956433075868195b3d1513623", checked := Tryd.checked }
namespace Rows
def none {H : Type} : Left H := { results := [], args := [] }

/- WHAT THE LISTED PACKAGE-LEVEL VARIABLES READ AS WHEN THE CALL BEGINS. Each datum BY PROGRAM (the guide's laid-datum.mjs) off the statement by which the dump's own 'gosem.cut.vars' lays the variable. In a bare row this is a premise. The card (YtfflfmpkjcomgaaDoorCards.lean) ties it to the program's text. -/
def laid_unicode_utf8_acceptRanges {H : Type} : DataW H := .agg [.agg [.lit (.int .u8 128), .lit (.int .u8 191)], .agg [.lit (.int .u8 160), .lit (.int .u8 191)], .agg [.lit (.int .u8 128), .lit (.int .u8 159)], .agg [.lit (.int .u8 144), .lit (.int .u8 191)], .agg [.lit (.int .u8 128), .lit (.int .u8 143)], .agg [.lit (.int .u8 0), .lit (.int .u8 0)], .agg [.lit (.int .u8 0), .lit (.int .u8 0)], .agg [.lit (.int .u8 0), .lit (.int .u8 0)], .agg [.lit (.int .u8 0), .lit (.int .u8 0)], .agg [.lit (.int .u8 0), .lit (.int .u8 0)], .agg [.lit (.int .u8 0), .lit (.int .u8 0)], .agg [.lit (.int .u8 0), .lit (.int .u8 0)], .agg [.lit (.int .u8 0), .lit (.int .u8 0)], .agg [.lit (.int .u8 0), .lit (.int .u8 0)], .agg [.lit (.int .u8 0), .lit (.int .u8 0)], .agg [.lit (.int .u8 0), .lit (.int .u8 0)]]
/-- One of Go's own tables, pinned by name: the form's constant. -/
def laid_unicode_utf8_first : DataW Unit := Go.Pinned.utf8First

/-- 'patchbaylaw10.CoverFactors': WHATEVER THE INPUT: true; the input reads as it did. -/
def coverFactorsSpec : ChangeSpec := { name := "coverFactors", fn := fun _ => fun
  | [d1, d2] => { results := [.lit (.bool true)], args := [d1, d2] }
  | _ => none }
def coverFactorsRow : OpenClaim := { program := "ytfflfmpkjcomgaadoor", sum := "49800c74c455d90289667fcd357046ef3625b20956433075868195b3d1513623", func := "patchbay/patchbaylaw10.CoverFactors", spec := "coverFactors", inPlace := ["internal/bytealg.IndexByteString", "internal/bytealg.IndexString", "internal/bytealg.CountString"], unfollowed := true, recurses := true, named := ["unicode/utf8.first", "unicode/utf8.acceptRanges", "internal/bytealg.MaxLen"], apart := false, laid := [("unicode/utf8.acceptRanges", laid_unicode_utf8_acceptRanges), ("unicode/utf8.first", laid_unicode_utf8_first)] }
def CoverFactorsSaid : Prop := coverFactorsRow.holds Tryd.pinned (OpenSpec.ofChange coverFactorsSpec)

/-- ITS FALSE NEIGHBOUR: 'it returns false'. Refute it at one input. -/
def coverFactorsWrong : ChangeSpec := { name := "coverFactors", fn := fun _ => fun
  | [d1, d2] => { results := [.lit (.bool false)], args := [d1, d2] }
  | _ => none }
def CoverFactorsWrongFalsely : Prop := coverFactorsRow.holds Tryd.pinned (OpenSpec.ofChange coverFactorsWrong)

/-- 'patchbaylaw10.CoverForms': WHATEVER THE INPUT: true; the input reads as it did. -/
def coverFormsSpec : ChangeSpec := { name := "coverForms", fn := fun _ => fun
  | [d1, d2, d3, d4] => { results := [.lit (.bool true)], args := [d1, d2, d3, d4] }
  | _ => none }
def coverFormsRow : OpenClaim := { program := "ytfflfmpkjcomgaadoor", sum := "49800c74c455d90289667fcd357046ef3625b20956433075868195b3d1513623", func := "patchbay/patchbaylaw10.CoverForms", spec := "coverForms", inPlace := ["internal/bytealg.IndexByteString", "internal/bytealg.IndexString", "internal/bytealg.CountString"], unfollowed := true, recurses := true, named := ["unicode/utf8.first", "unicode/utf8.acceptRanges", "internal/bytealg.MaxLen"], apart := false, laid := [("unicode/utf8.acceptRanges", laid_unicode_utf8_acceptRanges), ("unicode/utf8.first", laid_unicode_utf8_first)] }
def CoverFormsSaid : Prop := coverFormsRow.holds Tryd.pinned (OpenSpec.ofChange coverFormsSpec)

/-- ITS FALSE NEIGHBOUR: 'it returns false'. Refute it at one input. -/
def coverFormsWrong : ChangeSpec := { name := "coverForms", fn := fun _ => fun
  | [d1, d2, d3, d4] => { results := [.lit (.bool false)], args := [d1, d2, d3, d4] }
  | _ => none }
def CoverFormsWrongFalsely : Prop := coverFormsRow.holds Tryd.pinned (OpenSpec.ofChange coverFormsWrong)

/-- 'patchbaylaw10.CoverMeans': WHATEVER THE INPUT: true; the input reads as it did. -/
def coverMeansSpec : ChangeSpec := { name := "coverMeans", fn := fun _ => fun
  | [d1, d2] => { results := [.lit (.bool true)], args := [d1, d2] }
  | _ => none }
def coverMeansRow : OpenClaim := { program := "ytfflfmpkjcomgaadoor", sum := "49800c74c455d90289667fcd357046ef3625b20956433075868195b3d1513623", func := "patchbay/patchbaylaw10.CoverMeans", spec := "coverMeans", inPlace := ["internal/bytealg.IndexByteString", "internal/bytealg.IndexString", "internal/bytealg.CountString"], unfollowed := true, recurses := true, named := ["unicode/utf8.first", "unicode/utf8.acceptRanges", "internal/bytealg.MaxLen"], apart := false, laid := [("unicode/utf8.acceptRanges", laid_unicode_utf8_acceptRanges), ("unicode/utf8.first", laid_unicode_utf8_first)] }
def CoverMeansSaid : Prop := coverMeansRow.holds Tryd.pinned (OpenSpec.ofChange coverMeansSpec)

/-- ITS FALSE NEIGHBOUR: 'it returns false'. Refute it at one input. -/
def coverMeansWrong : ChangeSpec := { name := "coverMeans", fn := fun _ => fun
  | [d1, d2] => { results := [.lit (.bool false)], args := [d1, d2] }
  | _ => none }
def CoverMeansWrongFalsely : Prop := coverMeansRow.holds Tryd.pinned (OpenSpec.ofChange coverMeansWrong)

/-- 'patchbaylaw10.CoverLess': WHATEVER THE INPUT: true; the input reads as it did. -/
def coverLessSpec : ChangeSpec := { name := "coverLess", fn := fun _ => fun
  | [d1, d2] => { results := [.lit (.bool true)], args := [d1, d2] }
  | _ => none }
def coverLessRow : OpenClaim := { program := "ytfflfmpkjcomgaadoor", sum := "49800c74c455d90289667fcd357046ef3625b20956433075868195b3d1513623", func := "patchbay/patchbaylaw10.CoverLess", spec := "coverLess", inPlace := ["internal/bytealg.IndexByteString", "internal/bytealg.IndexString", "internal/bytealg.CountString"], unfollowed := true, recurses := true, named := ["unicode/utf8.first", "unicode/utf8.acceptRanges", "internal/bytealg.MaxLen"], apart := false, laid := [("unicode/utf8.acceptRanges", laid_unicode_utf8_acceptRanges), ("unicode/utf8.first", laid_unicode_utf8_first)] }
def CoverLessSaid : Prop := coverLessRow.holds Tryd.pinned (OpenSpec.ofChange coverLessSpec)

/-- ITS FALSE NEIGHBOUR: 'it returns false'. Refute it at one input. -/
def coverLessWrong : ChangeSpec := { name := "coverLess", fn := fun _ => fun
  | [d1, d2] => { results := [.lit (.bool false)], args := [d1, d2] }
  | _ => none }
def CoverLessWrongFalsely : Prop := coverLessRow.holds Tryd.pinned (OpenSpec.ofChange coverLessWrong)

/-- 'patchbaylaw10.CoverRows': WHATEVER THE INPUT: true; the input reads as it did. -/
def coverRowsSpec : ChangeSpec := { name := "coverRows", fn := fun _ => fun
  | [d1, d2] => { results := [.lit (.bool true)], args := [d1, d2] }
  | _ => none }
def coverRowsRow : OpenClaim := { program := "ytfflfmpkjcomgaadoor", sum := "49800c74c455d90289667fcd357046ef3625b20956433075868195b3d1513623", func := "patchbay/patchbaylaw10.CoverRows", spec := "coverRows", inPlace := ["internal/bytealg.IndexByteString", "internal/bytealg.IndexString", "internal/bytealg.CountString"], unfollowed := true, recurses := true, named := ["unicode/utf8.first", "unicode/utf8.acceptRanges", "internal/bytealg.MaxLen"], apart := false, laid := [("unicode/utf8.acceptRanges", laid_unicode_utf8_acceptRanges), ("unicode/utf8.first", laid_unicode_utf8_first)] }
def CoverRowsSaid : Prop := coverRowsRow.holds Tryd.pinned (OpenSpec.ofChange coverRowsSpec)

/-- ITS FALSE NEIGHBOUR: 'it returns false'. Refute it at one input. -/
def coverRowsWrong : ChangeSpec := { name := "coverRows", fn := fun _ => fun
  | [d1, d2] => { results := [.lit (.bool false)], args := [d1, d2] }
  | _ => none }
def CoverRowsWrongFalsely : Prop := coverRowsRow.holds Tryd.pinned (OpenSpec.ofChange coverRowsWrong)

/- THE SECOND FORM. 'bulk': how many values and letters a reading holds, each counted each time it is reached (what is shared counts as often as it is met; a slice's spare places count too). A statement '..UptoSaid' is the law's where the arguments, and the package variables that the reading takes, are together of bulk at most 1048576: NARROWER than '..Said'. Prove '..Said' where nothing that the law and all that it calls make is longer than what came in: it says more and counts as full. Else prove '..UptoSaid'. A law counts once. -/
mutual
def uptoBulk {H : Type} : DataW H → Nat
  | .lit (.string bytes) => bytes.length + 1
  | .lit _ => 1
  | .nil => 1
  | .ptr d => uptoBulk d + 1
  | .slice elems spare => uptoBulkAll elems + uptoBulkAll spare + 1
  | .agg parts => uptoBulkAll parts + 1
  | .iface _ d => uptoBulk d + 1
  | .map entries => uptoBulkEntries entries + 1
  | .held _ => 1
def uptoBulkAll {H : Type} : List (DataW H) → Nat
  | [] => 0
  | d :: r => uptoBulk d + uptoBulkAll r
def uptoBulkEntries {H : Type} : List (Lit × DataW H) → Nat
  | [] => 0
  | x :: r => uptoBulkEntry x + uptoBulkEntries r
def uptoBulkEntry {H : Type} : Lit × DataW H → Nat
  | (.string bytes, d) => bytes.length + uptoBulk d + 1
  | (_, d) => uptoBulk d + 1
 end
def uptoSmall : (H : Type) → List (DataW H) → Bool := fun _ ds => decide (uptoBulkAll ds ≤ 1048576)
def OpenSpec.upto (s : _root_.Go.ChangeSpec) : _root_.Go.OpenSpec := { _root_.Go.OpenSpec.ofChange s with cond := some uptoSmall }

/-- 'patchbaylaw10.CoverFactors', WHERE WHAT IT READS IS OF BULK AT MOST 1048576: true; the input reads as it did. -/
def coverFactorsUptoRow : OpenClaim := { program := "ytfflfmpkjcomgaadoor", sum := "49800c74c455d90289667fcd357046ef3625b20956433075868195b3d1513623", func := "patchbay/patchbaylaw10.CoverFactors", spec := "coverFactors", inPlace := ["internal/bytealg.IndexByteString", "internal/bytealg.IndexString", "internal/bytealg.CountString"], unfollowed := true, recurses := true, named := ["unicode/utf8.first", "unicode/utf8.acceptRanges", "internal/bytealg.MaxLen"], apart := false, laid := [("unicode/utf8.acceptRanges", laid_unicode_utf8_acceptRanges), ("unicode/utf8.first", laid_unicode_utf8_first)], narrowed := true }
def CoverFactorsUptoSaid : Prop := coverFactorsUptoRow.holds Tryd.pinned (OpenSpec.upto coverFactorsSpec)

/-- 'patchbaylaw10.CoverForms', WHERE WHAT IT READS IS OF BULK AT MOST 1048576: true; the input reads as it did. -/
def coverFormsUptoRow : OpenClaim := { program := "ytfflfmpkjcomgaadoor", sum := "49800c74c455d90289667fcd357046ef3625b20956433075868195b3d1513623", func := "patchbay/patchbaylaw10.CoverForms", spec := "coverForms", inPlace := ["internal/bytealg.IndexByteString", "internal/bytealg.IndexString", "internal/bytealg.CountString"], unfollowed := true, recurses := true, named := ["unicode/utf8.first", "unicode/utf8.acceptRanges", "internal/bytealg.MaxLen"], apart := false, laid := [("unicode/utf8.acceptRanges", laid_unicode_utf8_acceptRanges), ("unicode/utf8.first", laid_unicode_utf8_first)], narrowed := true }
def CoverFormsUptoSaid : Prop := coverFormsUptoRow.holds Tryd.pinned (OpenSpec.upto coverFormsSpec)

/-- 'patchbaylaw10.CoverMeans', WHERE WHAT IT READS IS OF BULK AT MOST 1048576: true; the input reads as it did. -/
def coverMeansUptoRow : OpenClaim := { program := "ytfflfmpkjcomgaadoor", sum := "49800c74c455d90289667fcd357046ef3625b20956433075868195b3d1513623", func := "patchbay/patchbaylaw10.CoverMeans", spec := "coverMeans", inPlace := ["internal/bytealg.IndexByteString", "internal/bytealg.IndexString", "internal/bytealg.CountString"], unfollowed := true, recurses := true, named := ["unicode/utf8.first", "unicode/utf8.acceptRanges", "internal/bytealg.MaxLen"], apart := false, laid := [("unicode/utf8.acceptRanges", laid_unicode_utf8_acceptRanges), ("unicode/utf8.first", laid_unicode_utf8_first)], narrowed := true }
def CoverMeansUptoSaid : Prop := coverMeansUptoRow.holds Tryd.pinned (OpenSpec.upto coverMeansSpec)

/-- 'patchbaylaw10.CoverLess', WHERE WHAT IT READS IS OF BULK AT MOST 1048576: true; the input reads as it did. -/
def coverLessUptoRow : OpenClaim := { program := "ytfflfmpkjcomgaadoor", sum := "49800c74c455d90289667fcd357046ef3625b20956433075868195b3d1513623", func := "patchbay/patchbaylaw10.CoverLess", spec := "coverLess", inPlace := ["internal/bytealg.IndexByteString", "internal/bytealg.IndexString", "internal/bytealg.CountString"], unfollowed := true, recurses := true, named := ["unicode/utf8.first", "unicode/utf8.acceptRanges", "internal/bytealg.MaxLen"], apart := false, laid := [("unicode/utf8.acceptRanges", laid_unicode_utf8_acceptRanges), ("unicode/utf8.first", laid_unicode_utf8_first)], narrowed := true }
def CoverLessUptoSaid : Prop := coverLessUptoRow.holds Tryd.pinned (OpenSpec.upto coverLessSpec)

/-- 'patchbaylaw10.CoverRows', WHERE WHAT IT READS IS OF BULK AT MOST 1048576: true; the input reads as it did. -/
def coverRowsUptoRow : OpenClaim := { program := "ytfflfmpkjcomgaadoor", sum := "49800c74c455d90289667fcd357046ef3625b20956433075868195b3d1513623", func := "patchbay/patchbaylaw10.CoverRows", spec := "coverRows", inPlace := ["internal/bytealg.IndexByteString", "internal/bytealg.IndexString", "internal/bytealg.CountString"], unfollowed := true, recurses := true, named := ["unicode/utf8.first", "unicode/utf8.acceptRanges", "internal/bytealg.MaxLen"], apart := false, laid := [("unicode/utf8.acceptRanges", laid_unicode_utf8_acceptRanges), ("unicode/utf8.first", laid_unicode_utf8_first)], narrowed := true }
def CoverRowsUptoSaid : Prop := coverRowsUptoRow.holds Tryd.pinned (OpenSpec.upto coverRowsSpec)

end Rows
end Go.Proofs.YtfflfmpkjcomgaaDoor
