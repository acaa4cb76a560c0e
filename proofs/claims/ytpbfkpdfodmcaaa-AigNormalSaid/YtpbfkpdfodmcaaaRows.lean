/-
  No cell of these rows narrows 'for every input' (looked for: loops, veiled, ifaces, maps, wideKeys, modest, calm, conditions, laid).
  DERIVED. THE GIVEN ROWS OF THIS SEAT. 11 by the template 'for every input the law returns true; each argument reads behind the call as it read before'; 0 by the template 'total and deterministic' (their statements: YtpbfkpdfodmcaaaTotals.lean).
  GIVEN WITH THE SEED: the statements are not yours to turn. If you find one false, say at which input.
  Laid BY PROGRAM, IN A SANDBOX (cutbox-rows.mjs): the forced cells as the released guide's own fill.sh prints them over the translation 9ccfeea164124dfb… (all of the seat's roots in one cut). By AI agents, Wed Nov 11 2026. No macro, syntax, notation, axiom, sorry.
-/
import Derived.Test.YtpbfkpdfodmcaaaChecked
import GoSem.Claim
import GoSem.ClaimJoined
import GoSem.ClaimMapViews
import Derived.JoinedTies
import Derived.KernelRfl
namespace Go.Proofs.Ytpbfkpdfodmcaaa
/- THE CELL 'sum', in the pinned program and in every row, IS THE sha256 OF THE DUMP (.gsa) THAT YtpbfkpdfodmcaaaProg.lean LOADS. Nothing in Lean hashes anything: it is a label: what it is worth is what the hold of that sum in a sandbox is worth. -/
noncomputable def Try.pinned : Pinned := { name := "ytpbfkpdfodmcaaa", sum := "9ccfeea164124dfb7ba200abdde9891fb9ca2788d1e86379269ee5b5461cef3c", checked := Try.checked }
namespace Rows
def none {H : Type} : Left H := { results := [], args := [] }

/-- 'patchbaylaw09.AigTells': WHATEVER THE INPUT: true; the input reads as it did. -/
def aigTellsSpec : ChangeSpec := { name := "aigTells", fn := fun _ => fun
  | [d1, d2] => { results := [.lit (.bool true)], args := [d1, d2] }
  | _ => none }
def aigTellsRow : OpenClaim := { program := "ytpbfkpdfodmcaaa", sum := "9ccfeea164124dfb7ba200abdde9891fb9ca2788d1e86379269ee5b5461cef3c", func := "patchbay/patchbaylaw09.AigTells", spec := "aigTells", unfollowed := true, recurses := true, plainKeys := false, apart := false }
def AigTellsSaid : Prop := aigTellsRow.holds Try.pinned (OpenSpec.ofChange aigTellsSpec)

/-- ITS FALSE NEIGHBOUR: 'it returns false'. Refute it at one input. -/
def aigTellsWrong : ChangeSpec := { name := "aigTells", fn := fun _ => fun
  | [d1, d2] => { results := [.lit (.bool false)], args := [d1, d2] }
  | _ => none }
def AigTellsWrongFalsely : Prop := aigTellsRow.holds Try.pinned (OpenSpec.ofChange aigTellsWrong)

/-- 'patchbaylaw09.AigSteps': WHATEVER THE INPUT: true; the input reads as it did. -/
def aigStepsSpec : ChangeSpec := { name := "aigSteps", fn := fun _ => fun
  | [d1, d2, d3] => { results := [.lit (.bool true)], args := [d1, d2, d3] }
  | _ => none }
def aigStepsRow : OpenClaim := { program := "ytpbfkpdfodmcaaa", sum := "9ccfeea164124dfb7ba200abdde9891fb9ca2788d1e86379269ee5b5461cef3c", func := "patchbay/patchbaylaw09.AigSteps", spec := "aigSteps", unfollowed := true, recurses := true, plainKeys := false, apart := false }
def AigStepsSaid : Prop := aigStepsRow.holds Try.pinned (OpenSpec.ofChange aigStepsSpec)

/-- ITS FALSE NEIGHBOUR: 'it returns false'. Refute it at one input. -/
def aigStepsWrong : ChangeSpec := { name := "aigSteps", fn := fun _ => fun
  | [d1, d2, d3] => { results := [.lit (.bool false)], args := [d1, d2, d3] }
  | _ => none }
def AigStepsWrongFalsely : Prop := aigStepsRow.holds Try.pinned (OpenSpec.ofChange aigStepsWrong)

/-- 'patchbaylaw09.AigMeans': WHATEVER THE INPUT: true; the input reads as it did. -/
def aigMeansSpec : ChangeSpec := { name := "aigMeans", fn := fun _ => fun
  | [d1, d2, d3, d4, d5] => { results := [.lit (.bool true)], args := [d1, d2, d3, d4, d5] }
  | _ => none }
def aigMeansRow : OpenClaim := { program := "ytpbfkpdfodmcaaa", sum := "9ccfeea164124dfb7ba200abdde9891fb9ca2788d1e86379269ee5b5461cef3c", func := "patchbay/patchbaylaw09.AigMeans", spec := "aigMeans", unfollowed := true, recurses := true, plainKeys := false, apart := false }
def AigMeansSaid : Prop := aigMeansRow.holds Try.pinned (OpenSpec.ofChange aigMeansSpec)

/-- ITS FALSE NEIGHBOUR: 'it returns false'. Refute it at one input. -/
def aigMeansWrong : ChangeSpec := { name := "aigMeans", fn := fun _ => fun
  | [d1, d2, d3, d4, d5] => { results := [.lit (.bool false)], args := [d1, d2, d3, d4, d5] }
  | _ => none }
def AigMeansWrongFalsely : Prop := aigMeansRow.holds Try.pinned (OpenSpec.ofChange aigMeansWrong)

/-- 'patchbaylaw09.AigNormal': WHATEVER THE INPUT: true; the input reads as it did. -/
def aigNormalSpec : ChangeSpec := { name := "aigNormal", fn := fun _ => fun
  | [d1, d2, d3] => { results := [.lit (.bool true)], args := [d1, d2, d3] }
  | _ => none }
def aigNormalRow : OpenClaim := { program := "ytpbfkpdfodmcaaa", sum := "9ccfeea164124dfb7ba200abdde9891fb9ca2788d1e86379269ee5b5461cef3c", func := "patchbay/patchbaylaw09.AigNormal", spec := "aigNormal", unfollowed := true, recurses := true, plainKeys := false, apart := false }
def AigNormalSaid : Prop := aigNormalRow.holds Try.pinned (OpenSpec.ofChange aigNormalSpec)

/-- ITS FALSE NEIGHBOUR: 'it returns false'. Refute it at one input. -/
def aigNormalWrong : ChangeSpec := { name := "aigNormal", fn := fun _ => fun
  | [d1, d2, d3] => { results := [.lit (.bool false)], args := [d1, d2, d3] }
  | _ => none }
def AigNormalWrongFalsely : Prop := aigNormalRow.holds Try.pinned (OpenSpec.ofChange aigNormalWrong)

/-- 'patchbaylaw09.AigLaws': WHATEVER THE INPUT: true; the input reads as it did. -/
def aigLawsSpec : ChangeSpec := { name := "aigLaws", fn := fun _ => fun
  | [d1, d2, d3, d4, d5, d6] => { results := [.lit (.bool true)], args := [d1, d2, d3, d4, d5, d6] }
  | _ => none }
def aigLawsRow : OpenClaim := { program := "ytpbfkpdfodmcaaa", sum := "9ccfeea164124dfb7ba200abdde9891fb9ca2788d1e86379269ee5b5461cef3c", func := "patchbay/patchbaylaw09.AigLaws", spec := "aigLaws", unfollowed := true, recurses := true, plainKeys := false, apart := false }
def AigLawsSaid : Prop := aigLawsRow.holds Try.pinned (OpenSpec.ofChange aigLawsSpec)

/-- ITS FALSE NEIGHBOUR: 'it returns false'. Refute it at one input. -/
def aigLawsWrong : ChangeSpec := { name := "aigLaws", fn := fun _ => fun
  | [d1, d2, d3, d4, d5, d6] => { results := [.lit (.bool false)], args := [d1, d2, d3, d4, d5, d6] }
  | _ => none }
def AigLawsWrongFalsely : Prop := aigLawsRow.holds Try.pinned (OpenSpec.ofChange aigLawsWrong)

/-- 'patchbaylaw19.CnfTells': WHATEVER THE INPUT: true; the input reads as it did. -/
def cnfTellsSpec : ChangeSpec := { name := "cnfTells", fn := fun _ => fun
  | [d1, d2, d3, d4, d5, d6, d7] => { results := [.lit (.bool true)], args := [d1, d2, d3, d4, d5, d6, d7] }
  | _ => none }
def cnfTellsRow : OpenClaim := { program := "ytpbfkpdfodmcaaa", sum := "9ccfeea164124dfb7ba200abdde9891fb9ca2788d1e86379269ee5b5461cef3c", func := "patchbay/patchbaylaw19.CnfTells", spec := "cnfTells", unfollowed := true, recurses := true, plainKeys := false, apart := false }
def CnfTellsSaid : Prop := cnfTellsRow.holds Try.pinned (OpenSpec.ofChange cnfTellsSpec)

/-- ITS FALSE NEIGHBOUR: 'it returns false'. Refute it at one input. -/
def cnfTellsWrong : ChangeSpec := { name := "cnfTells", fn := fun _ => fun
  | [d1, d2, d3, d4, d5, d6, d7] => { results := [.lit (.bool false)], args := [d1, d2, d3, d4, d5, d6, d7] }
  | _ => none }
def CnfTellsWrongFalsely : Prop := cnfTellsRow.holds Try.pinned (OpenSpec.ofChange cnfTellsWrong)

/-- 'patchbaylaw19.CnfUnrolls': WHATEVER THE INPUT: true; the input reads as it did. -/
def cnfUnrollsSpec : ChangeSpec := { name := "cnfUnrolls", fn := fun _ => fun
  | [d1, d2, d3, d4, d5] => { results := [.lit (.bool true)], args := [d1, d2, d3, d4, d5] }
  | _ => none }
def cnfUnrollsRow : OpenClaim := { program := "ytpbfkpdfodmcaaa", sum := "9ccfeea164124dfb7ba200abdde9891fb9ca2788d1e86379269ee5b5461cef3c", func := "patchbay/patchbaylaw19.CnfUnrolls", spec := "cnfUnrolls", unfollowed := true, recurses := true, plainKeys := false, apart := false }
def CnfUnrollsSaid : Prop := cnfUnrollsRow.holds Try.pinned (OpenSpec.ofChange cnfUnrollsSpec)

/-- ITS FALSE NEIGHBOUR: 'it returns false'. Refute it at one input. -/
def cnfUnrollsWrong : ChangeSpec := { name := "cnfUnrolls", fn := fun _ => fun
  | [d1, d2, d3, d4, d5] => { results := [.lit (.bool false)], args := [d1, d2, d3, d4, d5] }
  | _ => none }
def CnfUnrollsWrongFalsely : Prop := cnfUnrollsRow.holds Try.pinned (OpenSpec.ofChange cnfUnrollsWrong)

/-- 'patchbaylaw19.CnfRuns': WHATEVER THE INPUT: true; the input reads as it did. -/
def cnfRunsSpec : ChangeSpec := { name := "cnfRuns", fn := fun _ => fun
  | [d1, d2, d3, d4] => { results := [.lit (.bool true)], args := [d1, d2, d3, d4] }
  | _ => none }
def cnfRunsRow : OpenClaim := { program := "ytpbfkpdfodmcaaa", sum := "9ccfeea164124dfb7ba200abdde9891fb9ca2788d1e86379269ee5b5461cef3c", func := "patchbay/patchbaylaw19.CnfRuns", spec := "cnfRuns", unfollowed := true, recurses := true, plainKeys := false, apart := false }
def CnfRunsSaid : Prop := cnfRunsRow.holds Try.pinned (OpenSpec.ofChange cnfRunsSpec)

/-- ITS FALSE NEIGHBOUR: 'it returns false'. Refute it at one input. -/
def cnfRunsWrong : ChangeSpec := { name := "cnfRuns", fn := fun _ => fun
  | [d1, d2, d3, d4] => { results := [.lit (.bool false)], args := [d1, d2, d3, d4] }
  | _ => none }
def CnfRunsWrongFalsely : Prop := cnfRunsRow.holds Try.pinned (OpenSpec.ofChange cnfRunsWrong)

/-- 'patchbaylaw19.CnfOnly': WHATEVER THE INPUT: true; the input reads as it did. -/
def cnfOnlySpec : ChangeSpec := { name := "cnfOnly", fn := fun _ => fun
  | [d1, d2, d3, d4] => { results := [.lit (.bool true)], args := [d1, d2, d3, d4] }
  | _ => none }
def cnfOnlyRow : OpenClaim := { program := "ytpbfkpdfodmcaaa", sum := "9ccfeea164124dfb7ba200abdde9891fb9ca2788d1e86379269ee5b5461cef3c", func := "patchbay/patchbaylaw19.CnfOnly", spec := "cnfOnly", unfollowed := true, recurses := true, plainKeys := false, apart := false }
def CnfOnlySaid : Prop := cnfOnlyRow.holds Try.pinned (OpenSpec.ofChange cnfOnlySpec)

/-- ITS FALSE NEIGHBOUR: 'it returns false'. Refute it at one input. -/
def cnfOnlyWrong : ChangeSpec := { name := "cnfOnly", fn := fun _ => fun
  | [d1, d2, d3, d4] => { results := [.lit (.bool false)], args := [d1, d2, d3, d4] }
  | _ => none }
def CnfOnlyWrongFalsely : Prop := cnfOnlyRow.holds Try.pinned (OpenSpec.ofChange cnfOnlyWrong)

/-- 'patchbaylaw19.CnfSizes': WHATEVER THE INPUT: true; the input reads as it did. -/
def cnfSizesSpec : ChangeSpec := { name := "cnfSizes", fn := fun _ => fun
  | [d1, d2, d3] => { results := [.lit (.bool true)], args := [d1, d2, d3] }
  | _ => none }
def cnfSizesRow : OpenClaim := { program := "ytpbfkpdfodmcaaa", sum := "9ccfeea164124dfb7ba200abdde9891fb9ca2788d1e86379269ee5b5461cef3c", func := "patchbay/patchbaylaw19.CnfSizes", spec := "cnfSizes", unfollowed := true, recurses := true, plainKeys := false, apart := false }
def CnfSizesSaid : Prop := cnfSizesRow.holds Try.pinned (OpenSpec.ofChange cnfSizesSpec)

/-- ITS FALSE NEIGHBOUR: 'it returns false'. Refute it at one input. -/
def cnfSizesWrong : ChangeSpec := { name := "cnfSizes", fn := fun _ => fun
  | [d1, d2, d3] => { results := [.lit (.bool false)], args := [d1, d2, d3] }
  | _ => none }
def CnfSizesWrongFalsely : Prop := cnfSizesRow.holds Try.pinned (OpenSpec.ofChange cnfSizesWrong)

/-- 'patchbaylaw19.CnfBegins': WHATEVER THE INPUT: true; the input reads as it did. -/
def cnfBeginsSpec : ChangeSpec := { name := "cnfBegins", fn := fun _ => fun
  | [d1, d2, d3, d4] => { results := [.lit (.bool true)], args := [d1, d2, d3, d4] }
  | _ => none }
def cnfBeginsRow : OpenClaim := { program := "ytpbfkpdfodmcaaa", sum := "9ccfeea164124dfb7ba200abdde9891fb9ca2788d1e86379269ee5b5461cef3c", func := "patchbay/patchbaylaw19.CnfBegins", spec := "cnfBegins", unfollowed := true, recurses := true, plainKeys := false, apart := false }
def CnfBeginsSaid : Prop := cnfBeginsRow.holds Try.pinned (OpenSpec.ofChange cnfBeginsSpec)

/-- ITS FALSE NEIGHBOUR: 'it returns false'. Refute it at one input. -/
def cnfBeginsWrong : ChangeSpec := { name := "cnfBegins", fn := fun _ => fun
  | [d1, d2, d3, d4] => { results := [.lit (.bool false)], args := [d1, d2, d3, d4] }
  | _ => none }
def CnfBeginsWrongFalsely : Prop := cnfBeginsRow.holds Try.pinned (OpenSpec.ofChange cnfBeginsWrong)

/- THE SECOND FORM. 'bulk': how many values and letters a reading holds, each counted each time it is reached (what is shared counts as often as it is met; a slice's spare places count too). A statement '..UptoSaid' is the law's where the arguments, and the package variables that the reading takes, are together of bulk at most 1048576: NARROWER than '..Said'. Prove '..Said' where nothing that the law and all that it calls make is longer than what came in: it says more and counts as full. Else prove '..UptoSaid'. A law counts once. -/
mutual
def uptoBulk {H : Type} : DataW H → Nat
  | .lit (.string bytes) => bytes.length + 1
  | .lit _ => 1
  | .nil => 1
  | .ptr d => uptoBulk d + 1
  | .slice elems spare => uptoBulkAll elems + uptoBulkAll spare + 1
  | .agg parts => uptoBulkAll parts + 1
  | .iface _ d => uptoBulk d + 1
  | .map entries => uptoBulkEntries entries + 1
  | .held _ => 1
def uptoBulkAll {H : Type} : List (DataW H) → Nat
  | [] => 0
  | d :: r => uptoBulk d + uptoBulkAll r
def uptoBulkEntries {H : Type} : List (Lit × DataW H) → Nat
  | [] => 0
  | x :: r => uptoBulkEntry x + uptoBulkEntries r
def uptoBulkEntry {H : Type} : Lit × DataW H → Nat
  | (.string bytes, d) => bytes.length + uptoBulk d + 1
  | (_, d) => uptoBulk d + 1
 end
def uptoSmall : (H : Type) → List (DataW H) → Bool := fun _ ds => decide (uptoBulkAll ds ≤ 1048576)
def OpenSpec.upto (s : _root_.Go.ChangeSpec) : _root_.Go.OpenSpec := { _root_.Go.OpenSpec.ofChange s with cond := some uptoSmall }

/-- 'patchbaylaw09.AigTells', WHERE WHAT IT READS IS OF BULK AT MOST 1048576: true; the input reads as it did. -/
def aigTellsUptoRow : OpenClaim := { program := "ytpbfkpdfodmcaaa", sum := "9ccfeea164124dfb7ba200abdde9891fb9ca2788d1e86379269ee5b5461cef3c", func := "patchbay/patchbaylaw09.AigTells", spec := "aigTells", unfollowed := true, recurses := true, plainKeys := false, apart := false, narrowed := true }
def AigTellsUptoSaid : Prop := aigTellsUptoRow.holds Try.pinned (OpenSpec.upto aigTellsSpec)

/-- 'patchbaylaw09.AigSteps', WHERE WHAT IT READS IS OF BULK AT MOST 1048576: true; the input reads as it did. -/
def aigStepsUptoRow : OpenClaim := { program := "ytpbfkpdfodmcaaa", sum := "9ccfeea164124dfb7ba200abdde9891fb9ca2788d1e86379269ee5b5461cef3c", func := "patchbay/patchbaylaw09.AigSteps", spec := "aigSteps", unfollowed := true, recurses := true, plainKeys := false, apart := false, narrowed := true }
def AigStepsUptoSaid : Prop := aigStepsUptoRow.holds Try.pinned (OpenSpec.upto aigStepsSpec)

/-- 'patchbaylaw09.AigMeans', WHERE WHAT IT READS IS OF BULK AT MOST 1048576: true; the input reads as it did. -/
def aigMeansUptoRow : OpenClaim := { program := "ytpbfkpdfodmcaaa", sum := "9ccfeea164124dfb7ba200abdde9891fb9ca2788d1e86379269ee5b5461cef3c", func := "patchbay/patchbaylaw09.AigMeans", spec := "aigMeans", unfollowed := true, recurses := true, plainKeys := false, apart := false, narrowed := true }
def AigMeansUptoSaid : Prop := aigMeansUptoRow.holds Try.pinned (OpenSpec.upto aigMeansSpec)

/-- 'patchbaylaw09.AigNormal', WHERE WHAT IT READS IS OF BULK AT MOST 1048576: true; the input reads as it did. -/
def aigNormalUptoRow : OpenClaim := { program := "ytpbfkpdfodmcaaa", sum := "9ccfeea164124dfb7ba200abdde9891fb9ca2788d1e86379269ee5b5461cef3c", func := "patchbay/patchbaylaw09.AigNormal", spec := "aigNormal", unfollowed := true, recurses := true, plainKeys := false, apart := false, narrowed := true }
def AigNormalUptoSaid : Prop := aigNormalUptoRow.holds Try.pinned (OpenSpec.upto aigNormalSpec)

/-- 'patchbaylaw09.AigLaws', WHERE WHAT IT READS IS OF BULK AT MOST 1048576: true; the input reads as it did. -/
def aigLawsUptoRow : OpenClaim := { program := "ytpbfkpdfodmcaaa", sum := "9ccfeea164124dfb7ba200abdde9891fb9ca2788d1e86379269ee5b5461cef3c", func := "patchbay/patchbaylaw09.AigLaws", spec := "aigLaws", unfollowed := true, recurses := true, plainKeys := false, apart := false, narrowed := true }
def AigLawsUptoSaid : Prop := aigLawsUptoRow.holds Try.pinned (OpenSpec.upto aigLawsSpec)

/-- 'patchbaylaw19.CnfTells', WHERE WHAT IT READS IS OF BULK AT MOST 1048576: true; the input reads as it did. -/
def cnfTellsUptoRow : OpenClaim := { program := "ytpbfkpdfodmcaaa", sum := "9ccfeea164124dfb7ba200abdde9891fb9ca2788d1e86379269ee5b5461cef3c", func := "patchbay/patchbaylaw19.CnfTells", spec := "cnfTells", unfollowed := true, recurses := true, plainKeys := false, apart := false, narrowed := true }
def CnfTellsUptoSaid : Prop := cnfTellsUptoRow.holds Try.pinned (OpenSpec.upto cnfTellsSpec)

/-- 'patchbaylaw19.CnfUnrolls', WHERE WHAT IT READS IS OF BULK AT MOST 1048576: true; the input reads as it did. -/
def cnfUnrollsUptoRow : OpenClaim := { program := "ytpbfkpdfodmcaaa", sum := "9ccfeea164124dfb7ba200abdde9891fb9ca2788d1e86379269ee5b5461cef3c", func := "patchbay/patchbaylaw19.CnfUnrolls", spec := "cnfUnrolls", unfollowed := true, recurses := true, plainKeys := false, apart := false, narrowed := true }
def CnfUnrollsUptoSaid : Prop := cnfUnrollsUptoRow.holds Try.pinned (OpenSpec.upto cnfUnrollsSpec)

/-- 'patchbaylaw19.CnfRuns', WHERE WHAT IT READS IS OF BULK AT MOST 1048576: true; the input reads as it did. -/
def cnfRunsUptoRow : OpenClaim := { program := "ytpbfkpdfodmcaaa", sum := "9ccfeea164124dfb7ba200abdde9891fb9ca2788d1e86379269ee5b5461cef3c", func := "patchbay/patchbaylaw19.CnfRuns", spec := "cnfRuns", unfollowed := true, recurses := true, plainKeys := false, apart := false, narrowed := true }
def CnfRunsUptoSaid : Prop := cnfRunsUptoRow.holds Try.pinned (OpenSpec.upto cnfRunsSpec)

/-- 'patchbaylaw19.CnfOnly', WHERE WHAT IT READS IS OF BULK AT MOST 1048576: true; the input reads as it did. -/
def cnfOnlyUptoRow : OpenClaim := { program := "ytpbfkpdfodmcaaa", sum := "9ccfeea164124dfb7ba200abdde9891fb9ca2788d1e86379269ee5b5461cef3c", func := "patchbay/patchbaylaw19.CnfOnly", spec := "cnfOnly", unfollowed := true, recurses := true, plainKeys := false, apart := false, narrowed := true }
def CnfOnlyUptoSaid : Prop := cnfOnlyUptoRow.holds Try.pinned (OpenSpec.upto cnfOnlySpec)

/-- 'patchbaylaw19.CnfSizes', WHERE WHAT IT READS IS OF BULK AT MOST 1048576: true; the input reads as it did. -/
def cnfSizesUptoRow : OpenClaim := { program := "ytpbfkpdfodmcaaa", sum := "9ccfeea164124dfb7ba200abdde9891fb9ca2788d1e86379269ee5b5461cef3c", func := "patchbay/patchbaylaw19.CnfSizes", spec := "cnfSizes", unfollowed := true, recurses := true, plainKeys := false, apart := false, narrowed := true }
def CnfSizesUptoSaid : Prop := cnfSizesUptoRow.holds Try.pinned (OpenSpec.upto cnfSizesSpec)

/-- 'patchbaylaw19.CnfBegins', WHERE WHAT IT READS IS OF BULK AT MOST 1048576: true; the input reads as it did. -/
def cnfBeginsUptoRow : OpenClaim := { program := "ytpbfkpdfodmcaaa", sum := "9ccfeea164124dfb7ba200abdde9891fb9ca2788d1e86379269ee5b5461cef3c", func := "patchbay/patchbaylaw19.CnfBegins", spec := "cnfBegins", unfollowed := true, recurses := true, plainKeys := false, apart := false, narrowed := true }
def CnfBeginsUptoSaid : Prop := cnfBeginsUptoRow.holds Try.pinned (OpenSpec.upto cnfBeginsSpec)

end Rows
end Go.Proofs.Ytpbfkpdfodmcaaa
