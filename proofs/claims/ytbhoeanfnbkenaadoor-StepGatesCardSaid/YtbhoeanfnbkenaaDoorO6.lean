import Derived.Test.YtbhoeanfnbkenaaDoorR32
import Derived.Test.YtbhoeanfnbkenaaDoorR40p
import Derived.Test.YtbhoeanfnbkenaaDoorEng20
namespace Go.Proofs.YtbhoeanfnbkenaaDoor
open Go.RowKit Go.WideShapes Go.ChangeShapes
variable {H : Type} {enc : TypeId × Value → H} {W : World} {Bw : Nat → Prop}
abbrev wfI (n : Int) : Prop := (Lit.int .i64 n).wf = true
abbrev wfS {α : Type} (Bw : Nat → Prop) (Pr : α → Prop) (z : Nat) (l : List α) : Prop := (∀ x ∈ l, Pr x) ∧ l.length ≤ maxLen ∧ (l = [] ∨ ∃ sp, Bw ((l.length + sp) * z))
theorem wfS_len {α : Type} {Pr : α → Prop} {z : Nat} {l : List α} (h : wfS (· ≤ reachBytes) Pr z l) (hz : 0 < z) : l.length ≤ 140737488355328 := by
  rcases h.2.2 with rfl | ⟨sp, h⟩
  · exact Nat.zero_le _
  · have h1 : l.length * 1 ≤ (l.length + sp) * z := Nat.mul_le_mul (Nat.le_add_right _ _) hz
    have h2 : reachBytes ≤ 140737488355328 := by decide
    omega
theorem o_op : Opn enc Tryd.prog W Bw 43 (fun n : Int => [T.i .i64 n]) wfI := opn_int Tryd.underlying43
theorem o_bool : Opn enc Tryd.prog W Bw 4 (fun b : Bool => [T.b b]) fun _ => True := opn_bool Tryd.underlying4
theorem o_str : Opn enc Tryd.prog W Bw 9 (fun s : ByteArray => [T.s s]) fun s => s.size ≤ maxLen := opn_string Tryd.underlying9
abbrev wfT (Bw : Nat → Prop) (l : List ByteArray) : Prop := wfS Bw (fun s : ByteArray => s.size ≤ maxLen) (Tryd.prog.bytesOf 9) l
theorem o_texts : Opn enc Tryd.prog W Bw 22 (fun l : List ByteArray => [T.sl (sR l)]) (wfT Bw) := opn_slice Tryd.underlying22 (z := 1) (by kernel_rfl) (by decide) (fun _ => rfl) o_str
theorem o_gt : Opn enc Tryd.prog W Bw 45 gT fun g => wfI g.op :=
  (opn_struct Tryd.underlying45 (by kernel_rfl) (opf_cons rfl (z := 1) (by kernel_rfl) o_str (opf_cons rfl (z := 1) (by kernel_rfl) o_op (opf_cons rfl (z := 1) (by kernel_rfl) o_texts (opf_cons rfl (z := 1) (by kernel_rfl) o_texts (opf_cons rfl (z := 1) (by kernel_rfl) o_bool opf_nil)))))).to
    (fun p => (⟨p.1, p.2.1, p.2.2.1, p.2.2.2.1.map fun s => s.data.toList, p.2.2.2.2.1⟩ : Gt)) (fun p => by
      have e : rR (p.2.2.2.1.map fun s : ByteArray => s.data.toList) = sR p.2.2.2.1 := by
        unfold rR sR
        rw [List.map_map]
        exact List.map_congr_left fun s _ => by show [T.s (mk s.data.toList)] = _; rw [of_toList]
      unfold gT
      simp only [e]
      rfl) (fun _ h => h.2.1)
structure OpC (Bw : Nat → Prop) (c : Ci) : Prop where
  ins : wfT Bw c.ins
  outs : wfT Bw c.outs
  las : wfS Bw (fun x : La => wfI x.init) (Tryd.prog.bytesOf 61) c.las
  gts : wfS Bw (fun g : Gt => wfI g.op) (Tryd.prog.bytesOf 45) c.gts
theorem OpC.go {c : Ci} (h : OpC Bw c) : GOk c.gts := fun g hg => i64_of (h.gts.1 g hg)
theorem OpC.lo {c : Ci} (h : OpC Bw c) : LOk c.las := fun x hx => i64_of (h.las.1 x hx)
theorem OpC.room {c : Ci} (h : OpC (· ≤ reachBytes) c) : CRoom c := ⟨wfS_len h.ins (by decide +kernel), wfS_len h.outs (by decide +kernel), wfS_len h.las (by decide +kernel), wfS_len h.gts (by decide +kernel)⟩
end Go.Proofs.YtbhoeanfnbkenaaDoor
