import Derived.Test.YtbhoeanfnbkenaaGreatDoorR32
import Derived.Test.YtbhoeanfnbkenaaGreatDoorR35
namespace Go.Proofs.YtbhoeanfnbkenaaGreatDoor
open Go.RowKit Go.WideMaps
set_option maxRecDepth 100000
set_option linter.unusedSimpArgs false
theorem zeL {l : List ByteArray} {k : Nat} (h : zaR l k = true) : l.length ≤ k ∧ ∀ s ∈ l, s.size ≤ 60 := by
 unfold zaR at h
 rw [Bool.and_eq_true, decide_eq_true_eq, List.all_eq_true] at h
 exact ⟨h.1, fun s hs => of_decide_eq_true (h.2 s hs)⟩
structure FewI (c : Ci) : Prop where
 ins : c.ins.length ≤ 210
 outs : c.outs.length ≤ 210
 las : c.las.length ≤ 210
 gts : c.gts.length ≤ 210
 ti : ∀ s ∈ c.ins, s.size ≤ 60
 to : ∀ s ∈ c.outs, s.size ≤ 60
 tl : ∀ x ∈ c.las, x.name.size ≤ 60 ∧ x.next.size ≤ 60
 tg : ∀ g ∈ c.gts, g.name.size ≤ 60 ∧ (∀ s ∈ g.ins, s.size ≤ 60) ∧ g.ins.length ≤ 12 ∧ g.rows.length ≤ 140 ∧ ∀ r ∈ g.rows, r.length ≤ 60
theorem zme {g : Gt} (h : zco g = true) : g.name.size ≤ 60 ∧ (∀ s ∈ g.ins, s.size ≤ 60) ∧ g.ins.length ≤ 12 ∧ g.rows.length ≤ 140 ∧ ∀ r ∈ g.rows, r.length ≤ 60 := by
 unfold zco at h
 simp only [Bool.and_eq_true, decide_eq_true_eq] at h
 obtain ⟨h1, h2, h3⟩ := h
 have k1 := zeL h1
 have k2 := zeL h2
 rw [List.length_map] at k2
 exact ⟨h3, k1.2, k1.1, k2.1, fun r hr => by have := k2.2 (mk r) (List.mem_map.2 ⟨r, hr, rfl⟩); rwa [zbI] at this⟩
theorem zmf {c : Ci} (h : zcp c = true) : FewI c := by
 unfold zcp at h
 simp only [Bool.and_eq_true, decide_eq_true_eq, List.all_eq_true] at h
 obtain ⟨⟨h1, h2⟩, h3, h4, h5, h6⟩ := h
 have k3 := zeL h3
 have k4 := zeL h4
 exact ⟨k3.1, k4.1, h6, h5, k3.2, k4.2, fun x hx => by
  have := h2 x hx
  unfold zbX at this
  simp only [Bool.and_eq_true, decide_eq_true_eq] at this
  exact this, fun g hg => zme (h1 g hg)⟩
theorem FewI.room {c : Ci} (h : FewI c) : CRoom c := ⟨by have := h.ins; omega, by have := h.outs; omega, by have := h.las; omega, by have := h.gts; omega⟩
theorem zmg {c : Ci} (h : zc3 c = true) : FewI c := by
 unfold zc3 at h
 rw [Bool.and_eq_true] at h
 exact zmf h.1
end Go.Proofs.YtbhoeanfnbkenaaGreatDoor
