/-
  No cell of these rows narrows 'for every input' (looked for: loops, veiled, ifaces, maps, wideKeys, modest, calm, conditions, laid).
  DERIVED. THE GIVEN ROWS OF THIS SEAT. 5 by the template 'for every input the law returns true; each argument reads behind the call as it read before'; 0 by the template 'total and deterministic' (their statements: YtfflfmpkjcomgaaTotals.lean).
  GIVEN WITH THE SEED: the statements are not yours to turn. If you find one false, say at which input.
  Laid BY PROGRAM, IN A SANDBOX (cutbox-rows.mjs): the forced cells as the released guide's own fill.sh prints them over the translation aacde6b2c8b3b686… (all of the seat's roots in one cut). By AI agents, Wed Nov 11 2026. No macro, syntax, notation, axiom, sorry.
-/
import Derived.Test.YtfflfmpkjcomgaaChecked
import GoSem.Claim
import GoSem.ClaimJoined
import GoSem.ClaimMapViews
import Derived.JoinedTies
import Derived.KernelRfl
namespace Go.Proofs.Ytfflfmpkjcomgaa
/- THE CELL 'sum', in the pinned program and in every row, IS THE sha256 OF THE DUMP (.gsa) THAT YtfflfmpkjcomgaaProg.lean LOADS. Nothing in Lean hashes anything: it is a label: what it is worth is what the hold of that sum in a sandbox is worth. -/
noncomputable def Try.pinned : Pinned := { name := "ytfflfmpkjcomgaa", sum := "aacde6b2c8b3b68668738570adb85557ea22e55063ec36d2d2f087e4564bd281", checked := Try.checked }
namespace Rows
def none {H : Type} : Left H := { results := [], args := [] }

/-- 'patchbaylaw20.ProofReaches': WHATEVER THE INPUT: true; the input reads as it did. -/
def proofReachesSpec : ChangeSpec := { name := "proofReaches", fn := fun _ => fun
  | [d1, d2, d3] => { results := [.lit (.bool true)], args := [d1, d2, d3] }
  | _ => none }
def proofReachesRow : OpenClaim := { program := "ytfflfmpkjcomgaa", sum := "aacde6b2c8b3b68668738570adb85557ea22e55063ec36d2d2f087e4564bd281", func := "patchbay/patchbaylaw20.ProofReaches", spec := "proofReaches", unfollowed := true, recurses := true, apart := false }
def ProofReachesSaid : Prop := proofReachesRow.holds Try.pinned (OpenSpec.ofChange proofReachesSpec)

/-- ITS FALSE NEIGHBOUR: 'it returns false'. Refute it at one input. -/
def proofReachesWrong : ChangeSpec := { name := "proofReaches", fn := fun _ => fun
  | [d1, d2, d3] => { results := [.lit (.bool false)], args := [d1, d2, d3] }
  | _ => none }
def ProofReachesWrongFalsely : Prop := proofReachesRow.holds Try.pinned (OpenSpec.ofChange proofReachesWrong)

/-- 'patchbaylaw20.ProofSteps': WHATEVER THE INPUT: true; the input reads as it did. -/
def proofStepsSpec : ChangeSpec := { name := "proofSteps", fn := fun _ => fun
  | [d1, d2, d3, d4] => { results := [.lit (.bool true)], args := [d1, d2, d3, d4] }
  | _ => none }
def proofStepsRow : OpenClaim := { program := "ytfflfmpkjcomgaa", sum := "aacde6b2c8b3b68668738570adb85557ea22e55063ec36d2d2f087e4564bd281", func := "patchbay/patchbaylaw20.ProofSteps", spec := "proofSteps", unfollowed := true, recurses := true, apart := false }
def ProofStepsSaid : Prop := proofStepsRow.holds Try.pinned (OpenSpec.ofChange proofStepsSpec)

/-- ITS FALSE NEIGHBOUR: 'it returns false'. Refute it at one input. -/
def proofStepsWrong : ChangeSpec := { name := "proofSteps", fn := fun _ => fun
  | [d1, d2, d3, d4] => { results := [.lit (.bool false)], args := [d1, d2, d3, d4] }
  | _ => none }
def ProofStepsWrongFalsely : Prop := proofStepsRow.holds Try.pinned (OpenSpec.ofChange proofStepsWrong)

/-- 'patchbaylaw20.ProofHolds': WHATEVER THE INPUT: true; the input reads as it did. -/
def proofHoldsSpec : ChangeSpec := { name := "proofHolds", fn := fun _ => fun
  | [d1, d2, d3, d4] => { results := [.lit (.bool true)], args := [d1, d2, d3, d4] }
  | _ => none }
def proofHoldsRow : OpenClaim := { program := "ytfflfmpkjcomgaa", sum := "aacde6b2c8b3b68668738570adb85557ea22e55063ec36d2d2f087e4564bd281", func := "patchbay/patchbaylaw20.ProofHolds", spec := "proofHolds", unfollowed := true, recurses := true, apart := false }
def ProofHoldsSaid : Prop := proofHoldsRow.holds Try.pinned (OpenSpec.ofChange proofHoldsSpec)

/-- ITS FALSE NEIGHBOUR: 'it returns false'. Refute it at one input. -/
def proofHoldsWrong : ChangeSpec := { name := "proofHolds", fn := fun _ => fun
  | [d1, d2, d3, d4] => { results := [.lit (.bool false)], args := [d1, d2, d3, d4] }
  | _ => none }
def ProofHoldsWrongFalsely : Prop := proofHoldsRow.holds Try.pinned (OpenSpec.ofChange proofHoldsWrong)

/-- 'patchbaylaw20.ProofSound': WHATEVER THE INPUT: true; the input reads as it did. -/
def proofSoundSpec : ChangeSpec := { name := "proofSound", fn := fun _ => fun
  | [d1, d2, d3] => { results := [.lit (.bool true)], args := [d1, d2, d3] }
  | _ => none }
def proofSoundRow : OpenClaim := { program := "ytfflfmpkjcomgaa", sum := "aacde6b2c8b3b68668738570adb85557ea22e55063ec36d2d2f087e4564bd281", func := "patchbay/patchbaylaw20.ProofSound", spec := "proofSound", unfollowed := true, recurses := true, apart := false }
def ProofSoundSaid : Prop := proofSoundRow.holds Try.pinned (OpenSpec.ofChange proofSoundSpec)

/-- ITS FALSE NEIGHBOUR: 'it returns false'. Refute it at one input. -/
def proofSoundWrong : ChangeSpec := { name := "proofSound", fn := fun _ => fun
  | [d1, d2, d3] => { results := [.lit (.bool false)], args := [d1, d2, d3] }
  | _ => none }
def ProofSoundWrongFalsely : Prop := proofSoundRow.holds Try.pinned (OpenSpec.ofChange proofSoundWrong)

/-- 'patchbaylaw20.ProofMore': WHATEVER THE INPUT: true; the input reads as it did. -/
def proofMoreSpec : ChangeSpec := { name := "proofMore", fn := fun _ => fun
  | [d1, d2, d3, d4, d5, d6] => { results := [.lit (.bool true)], args := [d1, d2, d3, d4, d5, d6] }
  | _ => none }
def proofMoreRow : OpenClaim := { program := "ytfflfmpkjcomgaa", sum := "aacde6b2c8b3b68668738570adb85557ea22e55063ec36d2d2f087e4564bd281", func := "patchbay/patchbaylaw20.ProofMore", spec := "proofMore", unfollowed := true, recurses := true, apart := false }
def ProofMoreSaid : Prop := proofMoreRow.holds Try.pinned (OpenSpec.ofChange proofMoreSpec)

/-- ITS FALSE NEIGHBOUR: 'it returns false'. Refute it at one input. -/
def proofMoreWrong : ChangeSpec := { name := "proofMore", fn := fun _ => fun
  | [d1, d2, d3, d4, d5, d6] => { results := [.lit (.bool false)], args := [d1, d2, d3, d4, d5, d6] }
  | _ => none }
def ProofMoreWrongFalsely : Prop := proofMoreRow.holds Try.pinned (OpenSpec.ofChange proofMoreWrong)

/- THE SECOND FORM. 'bulk': how many values and letters a reading holds, each counted each time it is reached (what is shared counts as often as it is met; a slice's spare places count too). A statement '..UptoSaid' is the law's where the arguments, and the package variables that the reading takes, are together of bulk at most 1048576: NARROWER than '..Said'. Prove '..Said' where nothing that the law and all that it calls make is longer than what came in: it says more and counts as full. Else prove '..UptoSaid'. A law counts once. -/
mutual
def uptoBulk {H : Type} : DataW H → Nat
  | .lit (.string bytes) => bytes.length + 1
  | .lit _ => 1
  | .nil => 1
  | .ptr d => uptoBulk d + 1
  | .slice elems spare => uptoBulkAll elems + uptoBulkAll spare + 1
  | .agg parts => uptoBulkAll parts + 1
  | .iface _ d => uptoBulk d + 1
  | .map entries => uptoBulkEntries entries + 1
  | .held _ => 1
def uptoBulkAll {H : Type} : List (DataW H) → Nat
  | [] => 0
  | d :: r => uptoBulk d + uptoBulkAll r
def uptoBulkEntries {H : Type} : List (Lit × DataW H) → Nat
  | [] => 0
  | x :: r => uptoBulkEntry x + uptoBulkEntries r
def uptoBulkEntry {H : Type} : Lit × DataW H → Nat
  | (.string bytes, d) => bytes.length + uptoBulk d + 1
  | (_, d) => uptoBulk d + 1
 end
def uptoSmall : (H : Type) → List (DataW H) → Bool := fun _ ds => decide (uptoBulkAll ds ≤ 1048576)
def OpenSpec.upto (s : _root_.Go.ChangeSpec) : _root_.Go.OpenSpec := { _root_.Go.OpenSpec.ofChange s with cond := some uptoSmall }

/-- 'patchbaylaw20.ProofReaches', WHERE WHAT IT READS IS OF BULK AT MOST 1048576: true; the input reads as it did. -/
def proofReachesUptoRow : OpenClaim := { program := "ytfflfmpkjcomgaa", sum := "aacde6b2c8b3b68668738570adb85557ea22e55063ec36d2d2f087e4564bd281", func := "patchbay/patchbaylaw20.ProofReaches", spec := "proofReaches", unfollowed := true, recurses := true, apart := false, narrowed := true }
def ProofReachesUptoSaid : Prop := proofReachesUptoRow.holds Try.pinned (OpenSpec.upto proofReachesSpec)

/-- 'patchbaylaw20.ProofSteps', WHERE WHAT IT READS IS OF BULK AT MOST 1048576: true; the input reads as it did. -/
def proofStepsUptoRow : OpenClaim := { program := "ytfflfmpkjcomgaa", sum := "aacde6b2c8b3b68668738570adb85557ea22e55063ec36d2d2f087e4564bd281", func := "patchbay/patchbaylaw20.ProofSteps", spec := "proofSteps", unfollowed := true, recurses := true, apart := false, narrowed := true }
def ProofStepsUptoSaid : Prop := proofStepsUptoRow.holds Try.pinned (OpenSpec.upto proofStepsSpec)

/-- 'patchbaylaw20.ProofHolds', WHERE WHAT IT READS IS OF BULK AT MOST 1048576: true; the input reads as it did. -/
def proofHoldsUptoRow : OpenClaim := { program := "ytfflfmpkjcomgaa", sum := "aacde6b2c8b3b68668738570adb85557ea22e55063ec36d2d2f087e4564bd281", func := "patchbay/patchbaylaw20.ProofHolds", spec := "proofHolds", unfollowed := true, recurses := true, apart := false, narrowed := true }
def ProofHoldsUptoSaid : Prop := proofHoldsUptoRow.holds Try.pinned (OpenSpec.upto proofHoldsSpec)

/-- 'patchbaylaw20.ProofSound', WHERE WHAT IT READS IS OF BULK AT MOST 1048576: true; the input reads as it did. -/
def proofSoundUptoRow : OpenClaim := { program := "ytfflfmpkjcomgaa", sum := "aacde6b2c8b3b68668738570adb85557ea22e55063ec36d2d2f087e4564bd281", func := "patchbay/patchbaylaw20.ProofSound", spec := "proofSound", unfollowed := true, recurses := true, apart := false, narrowed := true }
def ProofSoundUptoSaid : Prop := proofSoundUptoRow.holds Try.pinned (OpenSpec.upto proofSoundSpec)

/-- 'patchbaylaw20.ProofMore', WHERE WHAT IT READS IS OF BULK AT MOST 1048576: true; the input reads as it did. -/
def proofMoreUptoRow : OpenClaim := { program := "ytfflfmpkjcomgaa", sum := "aacde6b2c8b3b68668738570adb85557ea22e55063ec36d2d2f087e4564bd281", func := "patchbay/patchbaylaw20.ProofMore", spec := "proofMore", unfollowed := true, recurses := true, apart := false, narrowed := true }
def ProofMoreUptoSaid : Prop := proofMoreUptoRow.holds Try.pinned (OpenSpec.upto proofMoreSpec)

end Rows
end Go.Proofs.Ytfflfmpkjcomgaa
