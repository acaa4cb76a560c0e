import Derived.Test.YtfflfmpkjcomgaaH1
import Derived.Test.YtfflfmpkjcomgaaEng19
namespace Go.Proofs.Ytfflfmpkjcomgaa
open Go.RowKit Go.WideShapes Go.ChangeShapes
variable {H : Type} {enc : TypeId × Value → H} {W : World} {Bw : Nat → Prop}
abbrev wfI (n : Int) : Prop := (Lit.int .i64 n).wf = true
/-- a slice of such: each one, how many, and how much room -/
abbrev wfS {α : Type} (Bw : Nat → Prop) (Pr : α → Prop) (z : Nat) (l : List α) : Prop := (∀ x ∈ l, Pr x) ∧ l.length ≤ maxLen ∧ (l = [] ∨ ∃ sp, Bw ((l.length + sp) * z))
theorem o_int : Opn enc Try.prog W Bw 3 (fun n : Int => [T.i .i64 n]) wfI := opn_int Try.underlying3
theorem o_bool : Opn enc Try.prog W Bw 4 (fun b : Bool => [T.b b]) fun _ => True := opn_bool Try.underlying4
theorem o_ints : Opn enc Try.prog W Bw 23 (fun l : List Int => [iL l]) (wfS Bw wfI (Try.prog.bytesOf 3)) := opn_slice Try.underlying23 (z := 1) (by kernel_rfl) (by decide) (fun _ => rfl) o_int
theorem o_cl : Opn enc Try.prog W Bw 31 (fun l : List Int => [iL l]) (wfS Bw wfI (Try.prog.bytesOf 3)) := opn_slice Try.underlying31 (z := 1) (by kernel_rfl) (by decide) (fun _ => rfl) o_int
theorem o_cls : Opn enc Try.prog W Bw 22 (fun l : List (List Int) => [cL l]) (wfS Bw (wfS Bw wfI (Try.prog.bytesOf 3)) (Try.prog.bytesOf 31)) := opn_slice Try.underlying22 (z := 1) (by kernel_rfl) (by decide) (fun _ => rfl) o_cl
theorem o_bools : Opn enc Try.prog W Bw 39 (fun l : List Bool => [bL l]) (wfS Bw (fun _ => True) (Try.prog.bytesOf 4)) := opn_slice Try.underlying39 (z := 1) (by kernel_rfl) (by decide) (fun _ => rfl) o_bool
end Go.Proofs.Ytfflfmpkjcomgaa
