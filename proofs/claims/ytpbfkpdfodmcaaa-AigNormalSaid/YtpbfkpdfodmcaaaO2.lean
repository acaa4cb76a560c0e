import Derived.Test.YtpbfkpdfodmcaaaA6
import Derived.Test.YtpbfkpdfodmcaaaEng19
namespace Go.Proofs.Ytpbfkpdfodmcaaa
open Go.RowKit Go.WideShapes Go.ChangeShapes
variable {H : Type} {enc : TypeId × Value → H} {W : World} {Bw : Nat → Prop}
abbrev wfI (n : Int) : Prop := (Lit.int .i64 n).wf = true
/-- a slice of such: each one, how many, and how much room -/
abbrev wfS {α : Type} (Bw : Nat → Prop) (Pr : α → Prop) (z : Nat) (l : List α) : Prop := (∀ x ∈ l, Pr x) ∧ l.length ≤ maxLen ∧ (l = [] ∨ ∃ sp, Bw ((l.length + sp) * z))
theorem wfS_len {α : Type} {Pr : α → Prop} {z : Nat} {l : List α} (h : wfS (· ≤ reachBytes) Pr z l) (hz : 0 < z) : l.length ≤ 140737488355328 := by
  rcases h.2.2 with rfl | ⟨sp, h⟩
  · exact Nat.zero_le _
  · have h1 : l.length * 1 ≤ (l.length + sp) * z := Nat.mul_le_mul (Nat.le_add_right _ _) hz
    have h2 : reachBytes ≤ 140737488355328 := by decide
    omega
theorem o_int : Opn enc Try.prog W Bw 3 (fun n : Int => [T.i .i64 n]) wfI := opn_int Try.underlying3
theorem o_bool : Opn enc Try.prog W Bw 4 (fun b : Bool => [T.b b]) fun _ => True := opn_bool Try.underlying4
theorem o_ints : Opn enc Try.prog W Bw 22 (fun l : List Int => [iL l]) (wfS Bw wfI (Try.prog.bytesOf 3)) := opn_slice Try.underlying22 (z := 1) (by kernel_rfl) (by decide) (fun _ => rfl) o_int
theorem o_bools : Opn enc Try.prog W Bw 33 (fun l : List Bool => [bL l]) (wfS Bw (fun _ => True) (Try.prog.bytesOf 4)) := opn_slice Try.underlying33 (z := 1) (by kernel_rfl) (by decide) (fun _ => rfl) o_bool
theorem o_pair : Opn enc Try.prog W Bw 77 (fun p : Int × Int => [T.i .i64 p.1, T.i .i64 p.2]) fun p => wfI p.1 ∧ wfI p.2 := opn_pair Try.underlying77 (z := 1) (by kernel_rfl) (by kernel_rfl) o_int
theorem o_pairs : Opn enc Try.prog W Bw 23 (fun l : List (Int × Int) => [pL l]) (wfS Bw (fun p : Int × Int => wfI p.1 ∧ wfI p.2) (Try.prog.bytesOf 77)) := opn_slice Try.underlying23 (z := 2) (by kernel_rfl) (by decide) (fun _ => rfl) o_pair
theorem o_g : Opn enc Try.prog W Bw 25 (fun g : G => [T.i .i64 g.ins, iL g.next, iL g.init, pL g.ands, iL g.outs]) fun g => wfI g.ins ∧ (wfS Bw wfI (Try.prog.bytesOf 3)) g.next ∧ (wfS Bw wfI (Try.prog.bytesOf 3)) g.init ∧ (wfS Bw (fun p : Int × Int => wfI p.1 ∧ wfI p.2) (Try.prog.bytesOf 77)) g.ands ∧ (wfS Bw wfI (Try.prog.bytesOf 3)) g.outs :=
  (opn_struct Try.underlying25 (by kernel_rfl) (opf_cons rfl (z := 1) (by kernel_rfl) o_int (opf_cons rfl (z := 1) (by kernel_rfl) o_ints (opf_cons rfl (z := 1) (by kernel_rfl) o_ints (opf_cons rfl (z := 1) (by kernel_rfl) o_pairs (opf_cons rfl (z := 1) (by kernel_rfl) o_ints opf_nil)))))).to (fun p => ⟨p.1, p.2.1, p.2.2.1, p.2.2.2.1, p.2.2.2.2.1⟩) (fun _ => rfl) (fun _ h => ⟨h.1, h.2.1, h.2.2.1, h.2.2.2.1, h.2.2.2.2.1⟩)
theorem small_of {g : G} (h : wfI g.ins ∧ (wfS (· ≤ reachBytes) wfI (Try.prog.bytesOf 3)) g.next ∧ (wfS (· ≤ reachBytes) wfI (Try.prog.bytesOf 3)) g.init ∧ (wfS (· ≤ reachBytes) (fun p : Int × Int => wfI p.1 ∧ wfI p.2) (Try.prog.bytesOf 77)) g.ands ∧ (wfS (· ≤ reachBytes) wfI (Try.prog.bytesOf 3)) g.outs) : g.Small :=
  ⟨(i64_of h.1).1, (i64_of h.1).2, wfS_len h.2.1 (by decide +kernel), wfS_len h.2.2.1 (by decide +kernel), wfS_len h.2.2.2.1 (by decide +kernel), wfS_len h.2.2.2.2 (by decide +kernel)⟩
end Go.Proofs.Ytpbfkpdfodmcaaa
