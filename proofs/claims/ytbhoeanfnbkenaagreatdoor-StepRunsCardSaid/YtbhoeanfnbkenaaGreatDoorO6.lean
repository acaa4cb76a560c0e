import Derived.Test.YtbhoeanfnbkenaaGreatDoorR32
import Derived.Test.YtbhoeanfnbkenaaGreatDoorR40p
import Derived.Test.YtbhoeanfnbkenaaGreatDoorEng20
namespace Go.Proofs.YtbhoeanfnbkenaaGreatDoor
open Go.RowKit Go.WideShapes Go.ChangeShapes
variable {H : Type} {enc : TypeId × Value → H} {W : World} {Bw : Nat → Prop}
abbrev wfI (n : Int) : Prop := (Lit.int .i64 n).wf = true
abbrev wfS {α : Type} (Bw : Nat → Prop) (Pr : α → Prop) (z : Nat) (l : List α) : Prop := (∀ x ∈ l, Pr x) ∧ l.length ≤ maxLen ∧ (l = [] ∨ ∃ sp, Bw ((l.length + sp) * z))
theorem zeG {α : Type} {Pr : α → Prop} {z : Nat} {l : List α} (h : wfS (· ≤ reachBytes) Pr z l) (hz : 0 < z) : l.length ≤ 140737488355328 := by
 rcases h.2.2 with rfl | ⟨sp, h⟩
 ·exact Nat.zero_le _
 ·have h1 : l.length * 1 ≤ (l.length + sp) * z := Nat.mul_le_mul (Nat.le_add_right _ _) hz
  have h2 : reachBytes ≤ 140737488355328 := by decide
  omega
theorem zlR : Opn enc Tryz.prog W Bw 3 (fun n : Int => [T.i .i64 n]) wfI := ze9 Tryz.underlying3
theorem zlS : Opn enc Tryz.prog W Bw 45 (fun n : Int => [T.i .i64 n]) wfI := ze9 Tryz.underlying45
theorem zif : Opn enc Tryz.prog W Bw 4 (fun b : Bool => [T.b b]) fun _ => True := zgE Tryz.underlying4
theorem zeH : Opn enc Tryz.prog W Bw 9 (fun s : ByteArray => [T.s s]) fun s => s.size ≤ maxLen := zgF Tryz.underlying9
abbrev wfT (Bw : Nat → Prop) (l : List ByteArray) : Prop := wfS Bw (fun s : ByteArray => s.size ≤ maxLen) (Tryz.prog.bytesOf 9) l
theorem zeI : Opn enc Tryz.prog W Bw 22 (fun l : List ByteArray => [T.sl (sR l)]) (wfT Bw) := zdG Tryz.underlying22 (z := 1) (by kernel_rfl) (by decide) (fun _ => rfl) zeH
theorem zlT : Opn enc Tryz.prog W Bw 47 gT fun g => wfI g.op :=
 (zfb Tryz.underlying47 (by kernel_rfl) (zbE rfl (z := 1) (by kernel_rfl) zeH (zbE rfl (z := 1) (by kernel_rfl) zlS (zbE rfl (z := 1) (by kernel_rfl) zeI (zbE rfl (z := 1) (by kernel_rfl) zeI (zbE rfl (z := 1) (by kernel_rfl) zif zfa)))))).to
  (fun p => (⟨p.1, p.2.1, p.2.2.1, p.2.2.2.1.map fun s => s.data.toList, p.2.2.2.2.1⟩ : Gt)) (fun p => by
   have e : rR (p.2.2.2.1.map fun s : ByteArray => s.data.toList) = sR p.2.2.2.1 := by
    unfold rR sR
    rw [List.map_map]
    exact List.map_congr_left fun s _ => by show [T.s (mk s.data.toList)] = _; rw [zhI]
   unfold gT
   simp only [e]
   rfl) (fun _ h => h.2.1)
theorem zlU : Opn enc Tryz.prog W Bw 24 (fun l : List Gt => [T.sl (gsR l)]) (wfS Bw (fun g : Gt => wfI g.op) (Tryz.prog.bytesOf 47)) := zdG Tryz.underlying24 (z := 5) (by kernel_rfl) (by decide) (fun _ => rfl) zlT
theorem zlV : Opn enc Tryz.prog W Bw 54 (fun x : La => [T.s x.name, T.s x.next, T.i .i64 x.init]) fun x => wfI x.init :=
 (zfb Tryz.underlying54 (by kernel_rfl) (zbE rfl (z := 1) (by kernel_rfl) zeH (zbE rfl (z := 1) (by kernel_rfl) zeH (zbE rfl (z := 1) (by kernel_rfl) zlR zfa)))).to (fun p => (⟨p.1, p.2.1, p.2.2.1⟩ : La)) (fun _ => rfl) (fun _ h => h.2.2.1)
theorem zlW : Opn enc Tryz.prog W Bw 23 (fun l : List La => [T.sl (lsR l)]) (wfS Bw (fun x : La => wfI x.init) (Tryz.prog.bytesOf 54)) := zdG Tryz.underlying23 (z := 3) (by kernel_rfl) (by decide) (fun _ => rfl) zlV
structure OpC (Bw : Nat → Prop) (c : Ci) : Prop where
 ins : wfT Bw c.ins
 outs : wfT Bw c.outs
 las : wfS Bw (fun x : La => wfI x.init) (Tryz.prog.bytesOf 54) c.las
 gts : wfS Bw (fun g : Gt => wfI g.op) (Tryz.prog.bytesOf 47) c.gts
theorem zlX : Opn enc Tryz.prog W Bw 26 cE (OpC Bw) :=
 (zfb Tryz.underlying26 (by kernel_rfl) (zbE rfl (z := 1) (by kernel_rfl) zeI (zbE rfl (z := 1) (by kernel_rfl) zeI (zbE rfl (z := 1) (by kernel_rfl) zlW (zbE rfl (z := 1) (by kernel_rfl) zlU zfa))))).to (fun p => (⟨p.1, p.2.1, p.2.2.1, p.2.2.2.1⟩ : Ci)) (fun _ => rfl) (fun _ h => ⟨h.1, h.2.1, h.2.2.1, h.2.2.2.1⟩)
theorem OpC.go {c : Ci} (h : OpC Bw c) : GOk c.gts := fun g hg => zgH (h.gts.1 g hg)
theorem OpC.lo {c : Ci} (h : OpC Bw c) : LOk c.las := fun x hx => zgH (h.las.1 x hx)
theorem OpC.room {c : Ci} (h : OpC (· ≤ reachBytes) c) : CRoom c := ⟨zeG h.ins (by decide +kernel), zeG h.outs (by decide +kernel), zeG h.las (by decide +kernel), zeG h.gts (by decide +kernel)⟩
end Go.Proofs.YtbhoeanfnbkenaaGreatDoor
