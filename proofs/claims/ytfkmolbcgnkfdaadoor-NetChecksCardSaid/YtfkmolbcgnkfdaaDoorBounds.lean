/- What a netlist that is looked at keeps to. -/
import Derived.Test.YtfkmolbcgnkfdaaDoorRChk
import Derived.Test.YtfkmolbcgnkfdaaDoorChk
namespace Go.Proofs.YtfkmolbcgnkfdaaDoor
open Go.RowKit
theorem fewB_get {l : List ByteArray} {m : Nat} (h : fewB l m = true) : l.length ≤ m ∧ ∀ s ∈ l, s.size ≤ 60 := by
  unfold fewB at h
  rw [Bool.and_eq_true, decide_eq_true_eq] at h
  obtain ⟨h1, h2⟩ := h
  rw [List.take_of_length_le (by omega)] at h1
  exact ⟨h2, fun s hs => of_decide_eq_true (List.all_eq_true.1 h1 s hs)⟩
theorem fewgB_get {g : Gt} (h : fewgB g = true) : (g.ins.length ≤ 12 ∧ ∀ s ∈ g.ins, s.size ≤ 60) ∧ (g.rows.length ≤ 140 ∧ ∀ s ∈ g.rows, s.size ≤ 60) ∧ g.name.size ≤ 60 := by
  unfold fewgB at h
  simp only [Bool.and_eq_true, decide_eq_true_eq] at h
  exact ⟨fewB_get h.1, fewB_get h.2.1, h.2.2⟩
structure Bounds (c : Ci) : Prop where
  ins : c.ins.length ≤ 210 ∧ ∀ s ∈ c.ins, s.size ≤ 60
  outs : c.outs.length ≤ 210 ∧ ∀ s ∈ c.outs, s.size ≤ 60
  las : c.las.length ≤ 210 ∧ ∀ l ∈ c.las, l.name.size ≤ 60 ∧ l.next.size ≤ 60
  gts : c.gts.length ≤ 210 ∧ ∀ g ∈ c.gts, fewgB g = true
theorem fewcB_get {c : Ci} (h : fewcB c = true) : Bounds c := by
  unfold fewcB at h
  simp only [Bool.and_eq_true, decide_eq_true_eq] at h
  obtain ⟨h1, h2, h3, h4, h5, h6⟩ := h
  rw [List.take_of_length_le (by omega)] at h1 h2
  refine ⟨fewB_get h3, fewB_get h4, ⟨h6, fun l hl => ?_⟩, ⟨h5, fun g hg => List.all_eq_true.1 h1 g hg⟩⟩
  have := List.all_eq_true.1 h2 l hl
  unfold fewlB at this
  simpa using this
theorem Bounds.few {c : Ci} (h : Bounds c) : Few c := ⟨by have := h.ins.1; omega, by have := h.outs.1; omega, by have := h.las.1; omega, by have := h.gts.1; omega⟩
theorem Bounds.fewG {c : Ci} (h : Bounds c) : FewG c.gts := fun g hg => by
  have := fewgB_get (h.gts.2 g hg)
  exact ⟨by omega, by omega⟩
theorem Bounds.fewZ {c : Ci} (h : Bounds c) : FewZ c.gts := fun g hg s hs => by
  have := (fewgB_get (h.gts.2 g hg)).2.1.2 s hs
  omega
theorem Bounds.told {c : Ci} (h : Bounds c) : ∀ s ∈ toldC c, s.size ≤ 100000 := fun s hs => by
  unfold toldC at hs
  simp only [List.mem_append, List.mem_flatMap] at hs
  rcases hs with hs | hs | ⟨l, hl, hs⟩ | ⟨g, hg, hs⟩
  · have := h.ins.2 s hs; omega
  · have := h.outs.2 s hs; omega
  · have := h.las.2 l hl
    simp at hs
    rcases hs with rfl | rfl <;> omega
  · have hb := fewgB_get (h.gts.2 g hg)
    rcases List.mem_cons.1 hs with rfl | hs
    · have := hb.2.2; omega
    · have := hb.1.2 s hs; omega
theorem Bounds.nets {c : Ci} (h : Bounds c) : (netsC c).length ≤ 1000 := by
  unfold netsC
  have h1 := h.ins.1
  have h2 := h.las.1
  have h3 := h.gts.1
  simp
  omega
end Go.Proofs.YtfkmolbcgnkfdaaDoor
