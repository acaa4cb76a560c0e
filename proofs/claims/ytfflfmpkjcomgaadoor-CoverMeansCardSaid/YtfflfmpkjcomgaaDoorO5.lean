import Derived.Test.YtfflfmpkjcomgaaDoorK20
import Derived.Test.YtfflfmpkjcomgaaDoorEng20
namespace Go.Proofs.YtfflfmpkjcomgaaDoor
open Go.RowKit Go.WideShapes Go.ChangeShapes
variable {H : Type} {enc : TypeId × Value → H} {W : World} {Bw : Nat → Prop}
abbrev wfI (n : Int) : Prop := (Lit.int .i64 n).wf = true
/-- a slice of such: each one, how many, and how much room -/
abbrev wfS {α : Type} (Bw : Nat → Prop) (Pr : α → Prop) (z : Nat) (l : List α) : Prop := (∀ x ∈ l, Pr x) ∧ l.length ≤ maxLen ∧ (l = [] ∨ ∃ sp, Bw ((l.length + sp) * z))
theorem o_int : Opn enc Tryd.prog W Bw 3 (fun n : Int => [T.i .i64 n]) wfI := opn_int Tryd.underlying3
theorem o_bool : Opn enc Tryd.prog W Bw 4 (fun b : Bool => [T.b b]) fun _ => True := opn_bool Tryd.underlying4
theorem o_str : Opn enc Tryd.prog W Bw 9 (fun s : ByteArray => [T.s s]) fun s => s.size ≤ maxLen := opn_string Tryd.underlying9
theorem o_texts : Opn enc Tryd.prog W Bw 22 (fun l : List ByteArray => [sL l]) (wfS Bw (fun s => s.size ≤ maxLen) (Tryd.prog.bytesOf 9)) := opn_slice Tryd.underlying22 (z := 1) (by kernel_rfl) (by decide) (fun _ => rfl) o_str
theorem o_bools : Opn enc Tryd.prog W Bw 36 (fun l : List Bool => [bL l]) (wfS Bw (fun _ => True) (Tryd.prog.bytesOf 4)) := opn_slice Tryd.underlying36 (z := 1) (by kernel_rfl) (by decide) (fun _ => rfl) o_bool
theorem o_fm : Opn enc Tryd.prog W Bw 52 (fun f : Fm => [T.i .i64 f.k, T.i .i64 f.lit, T.i .i64 f.kids]) fun f => wfI f.k ∧ wfI f.lit ∧ wfI f.kids :=
  (opn_struct Tryd.underlying52 (by kernel_rfl) (opf_cons rfl (z := 1) (by kernel_rfl) o_int (opf_cons rfl (z := 1) (by kernel_rfl) o_int (opf_cons rfl (z := 1) (by kernel_rfl) o_int opf_nil)))).to (fun p => ⟨p.1, p.2.1, p.2.2.1⟩) (fun _ => rfl) (fun _ h => ⟨h.1, h.2.1, h.2.2.1⟩)
theorem o_fms : Opn enc Tryd.prog W Bw 25 (fun l : List Fm => [fL l]) (wfS Bw (fun f : Fm => wfI f.k ∧ wfI f.lit ∧ wfI f.kids) (Tryd.prog.bytesOf 52)) := opn_slice Tryd.underlying25 (z := 3) (by kernel_rfl) (by decide) (fun _ => rfl) o_fm
theorem rL_sL (l : List ByteArray) : rL (l.map fun s => s.data.toList) = sL l := by
  unfold rL sL
  rw [List.map_map]
  congr 1
theorem inF_of {z : Nat} {l : List Fm} (h : wfS Bw (fun f : Fm => wfI f.k ∧ wfI f.lit ∧ wfI f.kids) z l) : InF l := fun f hf => ⟨i64_of (h.1 f hf).1, i64_of (h.1 f hf).2.1, i64_of (h.1 f hf).2.2⟩
end Go.Proofs.YtfflfmpkjcomgaaDoor
