import Derived.Test.YtbhoeanfnbkenaaGreatDoorR32
import Derived.Test.YtbhoeanfnbkenaaGreatDoorR40p
import Derived.Test.YtbhoeanfnbkenaaGreatDoorEng20
namespace Go.Proofs.YtbhoeanfnbkenaaGreatDoor
open Go.RowKit Go.WideShapes Go.ChangeShapes
variable {H : Type} {enc : TypeId × Value → H} {W : World} {Bw : Nat → Prop}
abbrev wfI (n : Int) : Prop := (Lit.int .i64 n).wf = true
abbrev wfS {α : Type} (Bw : Nat → Prop) (Pr : α → Prop) (z : Nat) (l : List α) : Prop := (∀ x ∈ l, Pr x) ∧ l.length ≤ maxLen ∧ (l = [] ∨ ∃ sp, Bw ((l.length + sp) * z))
theorem zeD {α : Type} {Pr : α → Prop} {z : Nat} {l : List α} (h : wfS (· ≤ reachBytes) Pr z l) (hz : 0 < z) : l.length ≤ 140737488355328 := by
 rcases h.2.2 with rfl | ⟨sp, h⟩
 ·exact Nat.zero_le _
 ·have h1 : l.length * 1 ≤ (l.length + sp) * z := Nat.mul_le_mul (Nat.le_add_right _ _) hz
  have h2 : reachBytes ≤ 140737488355328 := by decide
  omega
theorem zlX : Opn enc Tryz.prog W Bw 3 (fun n : Int => [T.i .i64 n]) wfI := ze8 Tryz.underlying3
theorem zlY : Opn enc Tryz.prog W Bw 45 (fun n : Int => [T.i .i64 n]) wfI := ze8 Tryz.underlying45
theorem zid : Opn enc Tryz.prog W Bw 4 (fun b : Bool => [T.b b]) fun _ => True := zgF Tryz.underlying4
theorem zeE : Opn enc Tryz.prog W Bw 9 (fun s : ByteArray => [T.s s]) fun s => s.size ≤ maxLen := zgG Tryz.underlying9
abbrev wfT (Bw : Nat → Prop) (l : List ByteArray) : Prop := wfS Bw (fun s : ByteArray => s.size ≤ maxLen) (Tryz.prog.bytesOf 9) l
theorem zeF : Opn enc Tryz.prog W Bw 22 (fun l : List ByteArray => [T.sl (sR l)]) (wfT Bw) := zd8 Tryz.underlying22 (z := 1) (by kernel_rfl) (by decide) (fun _ => rfl) zeE
theorem zlZ : Opn enc Tryz.prog W Bw 47 gT fun g => wfI g.op :=
 (zfa Tryz.underlying47 (by kernel_rfl) (zbF rfl (z := 1) (by kernel_rfl) zeE (zbF rfl (z := 1) (by kernel_rfl) zlY (zbF rfl (z := 1) (by kernel_rfl) zeF (zbF rfl (z := 1) (by kernel_rfl) zeF (zbF rfl (z := 1) (by kernel_rfl) zid ze9)))))).to
  (fun p => (⟨p.1, p.2.1, p.2.2.1, p.2.2.2.1.map fun s => s.data.toList, p.2.2.2.2.1⟩ : Gt)) (fun p => by
   have e : rR (p.2.2.2.1.map fun s : ByteArray => s.data.toList) = sR p.2.2.2.1 := by
    unfold rR sR
    rw [List.map_map]
    exact List.map_congr_left fun s _ => by show [T.s (mk s.data.toList)] = _; rw [zhG]
   unfold gT
   simp only [e]
   rfl) (fun _ h => h.2.1)
theorem zl0 : Opn enc Tryz.prog W Bw 24 (fun l : List Gt => [T.sl (gsR l)]) (wfS Bw (fun g : Gt => wfI g.op) (Tryz.prog.bytesOf 47)) := zd8 Tryz.underlying24 (z := 5) (by kernel_rfl) (by decide) (fun _ => rfl) zlZ
theorem zl1 : Opn enc Tryz.prog W Bw 54 (fun x : La => [T.s x.name, T.s x.next, T.i .i64 x.init]) fun x => wfI x.init :=
 (zfa Tryz.underlying54 (by kernel_rfl) (zbF rfl (z := 1) (by kernel_rfl) zeE (zbF rfl (z := 1) (by kernel_rfl) zeE (zbF rfl (z := 1) (by kernel_rfl) zlX ze9)))).to (fun p => (⟨p.1, p.2.1, p.2.2.1⟩ : La)) (fun _ => rfl) (fun _ h => h.2.2.1)
theorem zl2 : Opn enc Tryz.prog W Bw 23 (fun l : List La => [T.sl (lsR l)]) (wfS Bw (fun x : La => wfI x.init) (Tryz.prog.bytesOf 54)) := zd8 Tryz.underlying23 (z := 3) (by kernel_rfl) (by decide) (fun _ => rfl) zl1
structure OpC (Bw : Nat → Prop) (c : Ci) : Prop where
 ins : wfT Bw c.ins
 outs : wfT Bw c.outs
 las : wfS Bw (fun x : La => wfI x.init) (Tryz.prog.bytesOf 54) c.las
 gts : wfS Bw (fun g : Gt => wfI g.op) (Tryz.prog.bytesOf 47) c.gts
theorem zl3 : Opn enc Tryz.prog W Bw 26 cE (OpC Bw) :=
 (zfa Tryz.underlying26 (by kernel_rfl) (zbF rfl (z := 1) (by kernel_rfl) zeF (zbF rfl (z := 1) (by kernel_rfl) zeF (zbF rfl (z := 1) (by kernel_rfl) zl2 (zbF rfl (z := 1) (by kernel_rfl) zl0 ze9))))).to (fun p => (⟨p.1, p.2.1, p.2.2.1, p.2.2.2.1⟩ : Ci)) (fun _ => rfl) (fun _ h => ⟨h.1, h.2.1, h.2.2.1, h.2.2.2.1⟩)
theorem OpC.go {c : Ci} (h : OpC Bw c) : GOk c.gts := fun g hg => zgI (h.gts.1 g hg)
theorem OpC.lo {c : Ci} (h : OpC Bw c) : LOk c.las := fun x hx => zgI (h.las.1 x hx)
theorem OpC.room {c : Ci} (h : OpC (· ≤ reachBytes) c) : CRoom c := ⟨zeD h.ins (by decide +kernel), zeD h.outs (by decide +kernel), zeD h.las (by decide +kernel), zeD h.gts (by decide +kernel)⟩
end Go.Proofs.YtbhoeanfnbkenaaGreatDoor
