/- A token that was handed in. -/
import Derived.Test.YtfljnhmpelpdaaaDoorWordsLaw
import Derived.ChangeArms
namespace Go.Proofs.YtfljnhmpelpdaaaDoor
open Go.RowKit
set_option maxRecDepth 100000

theorem under23 : Tryd.prog.underlying 23 = some (.struct (Tryd.prog.fieldsOf 23)) := by kernel_rfl
theorem fields23 : (Tryd.prog.fieldsOf 23).toList.map (fun f => (f.name, f.type, f.offset)) = [("Kind", 3, 0), ("Text", 9, 1), ("At", 3, 2)] := by kernel_rfl

theorem ti_of {H : Type} {enc : TypeId × Value → H} {W : World} {n : Nat} {xs : List Value} {y : DataW H × List MemPlace} (h : DataW.trod enc Tryd.prog W 0 (fun _ => true) true n 23 xs = some y) (hl : xs.length = 3) : ∃ x : Ti, xs = tic x ∧ x.t.size ≤ maxLen := by
  obtain ⟨ys, m, _, _, _, hys, hf⟩ := DataW.trod_struct under23 h
  have hfs := fields23
  have part : ∀ (j : Nat) (f : Field), (Tryd.prog.fieldsOf 23)[j]? = some f → ∃ y', DataW.trod enc Tryd.prog W 0 (fun _ => true) true m f.type ((xs.drop f.offset).take (Tryd.prog.cellsOf f.type)) = some y' := fun j f hj => by
    have hj2 : j < ys.length := by rw [hys]; exact (Array.getElem?_eq_some_iff.1 hj).1
    exact ⟨_, (hf j f hj).trans (List.getElem?_eq_getElem hj2)⟩
  match xs, hl with
  | [a, b, c], _ =>
    have hl3 : (Tryd.prog.fieldsOf 23).toList.length = 3 := by have := congrArg List.length hfs; simpa using this
    have f0 := congrArg (fun l => l[0]?) hfs
    have f1 := congrArg (fun l => l[1]?) hfs
    have f2 := congrArg (fun l => l[2]?) hfs
    simp only [List.getElem?_map, Array.getElem?_toList, List.getElem?_cons_zero, List.getElem?_cons_succ, Option.map_eq_some_iff, Prod.mk.injEq] at f0 f1 f2
    obtain ⟨g0, e0, _, t0, o0⟩ := f0
    obtain ⟨g1, e1, _, t1, o1⟩ := f1
    obtain ⟨g2, e2, _, t2, o2⟩ := f2
    have k3 : Tryd.prog.cellsOf 3 = 1 := by kernel_rfl
    have k9 : Tryd.prog.cellsOf 9 = 1 := by kernel_rfl
    obtain ⟨y0, h0⟩ := part 0 g0 e0
    obtain ⟨y1, h1⟩ := part 1 g1 e1
    obtain ⟨y2, h2⟩ := part 2 g2 e2
    rw [t0, o0, k3] at h0
    rw [t1, o1, k9] at h1
    rw [t2, o2, k3] at h2
    obtain ⟨x0, q0, _⟩ := trod_int_is Tryd.underlying3 h0
    obtain ⟨x1, q1, z1⟩ := trod_string_is Tryd.underlying9 h1
    obtain ⟨x2, q2, _⟩ := trod_int_is Tryd.underlying3 h2
    simp only [List.drop_zero, List.drop_succ_cons, List.take_succ_cons, List.take_zero, List.cons.injEq, and_true] at q0 q1 q2
    subst q0 q1 q2
    exact ⟨⟨x0, x1, x2⟩, rfl, z1⟩


section
open Go.WideShapes Go.ChangeShapes Go.Deep
theorem open_ti {H : Type} {enc : TypeId × Value → H} {W : World} {r : Reach} {b0 : Nat} {v : Value} {d : DataW H} {p : List MemPlace} (hv : Value.okWide Tryd.prog W r b0 23 v) (h : DataW.Trod enc Tryd.prog W 0 (fun _ => true) true 23 v d p) :
    ∃ x : Ti, v = .agg #[.int .i64 x.k, .string x.t, .int .i64 x.p] ∧ x.t.size ≤ maxLen := by
  obtain ⟨cs, rfl, hsz⟩ := okWide_struct under23 hv
  obtain ⟨n, hn⟩ := h
  have h3 : Tryd.prog.cellsOf 23 = 3 := by kernel_rfl
  rw [h3] at hsz
  obtain ⟨x, hx, hz⟩ := ti_of hn (by simpa [Value.cells] using hsz)
  refine ⟨x, ?_, hz⟩
  have : cs.toList = tic x := by simpa [Value.cells] using hx
  rw [show cs = (tic x).toArray from by rw [← this]]
  rfl
end
end Go.Proofs.YtfljnhmpelpdaaaDoor
