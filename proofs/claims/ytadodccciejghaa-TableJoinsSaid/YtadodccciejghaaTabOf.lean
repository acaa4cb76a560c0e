/- A table that was handed in. -/
import Derived.Test.YtadodccciejghaaOpen
import Derived.Test.YtadodccciejghaaNames
import Derived.ChangeArms
namespace Go.Proofs.Ytadodccciejghaa
open Go.RowKit
set_option maxRecDepth 100000

theorem under24 : Try.prog.underlying 24 = some (.struct (Try.prog.fieldsOf 24)) := by kernel_rfl
theorem fields24 : (Try.prog.fieldsOf 24).toList.map (fun f => (f.name, f.type, f.offset)) = [("From", 22, 0), ("To", 22, 1)] := by kernel_rfl
/-- a list of texts that was handed in -/
structure Inn (W : World) (v : Value) (l : List ByteArray) : Prop where
  lst : Lst stc W v l
  len : l.length ≤ maxLen
  size : ∀ x ∈ l, x.size ≤ maxLen
  nil : NilFine v
  cap : CapFine v
section
open Go.WideShapes Go.ChangeShapes Go.Deep
variable {H : Type} {enc : TypeId × Value → H} {W : World}
theorem str_of (n : Nat) (xs : List Value) (y : DataW H × List MemPlace) (h : DataW.trod enc Try.prog W 0 (fun _ => true) true n 9 xs = some y) : ∃ x : ByteArray, xs = stc x ∧ x.size ≤ maxLen := by
  obtain ⟨s, h1, h2⟩ := trod_string_is Try.underlying9 h
  exact ⟨s, h1, h2⟩
theorem inn_of {n : Nat} {v : Value} {y : DataW H × List MemPlace} (h : DataW.trod enc Try.prog W 0 (fun _ => true) true n 22 [v] = some y) : ∃ l, Inn W v l := by
  obtain ⟨l, h1, h2, h3, h4, h5⟩ := lst_of_trodQ (ec := stc) (z := 1) Try.underlying22 (by kernel_rfl) (by decide) stc_len (fun n xs y h _ => str_of n xs y h) (d := y.1) (p := y.2) h
  exact ⟨l, h1, h2, h3, h4, h5⟩
theorem open_list {r : Reach} {b0 : Nat} {v : Value} {d : DataW H} {p : List MemPlace} (hv : Value.okWide Try.prog W r b0 22 v) (h : DataW.Trod enc Try.prog W 0 (fun _ => true) true 22 v d p) : ∃ l, Inn W v l := by
  obtain ⟨l, h1, h2, h3, h4, h5⟩ := open_lstC (ec := stc) (z := 1) Try.underlying22 (by kernel_rfl) (by decide) stc_len (fun n xs y h _ => str_of n xs y h) hv h
  exact ⟨l, h1, h2, h3, h4, h5⟩
theorem open_tab {r : Reach} {b0 : Nat} {v : Value} {d : DataW H} {p : List MemPlace} (hv : Value.okWide Try.prog W r b0 24 v) (h : DataW.Trod enc Try.prog W 0 (fun _ => true) true 24 v d p) :
    ∃ (x y : Value) (a b : List ByteArray), v = .agg #[x, y] ∧ Inn W x a ∧ Inn W y b := by
  obtain ⟨cs, rfl, hsz⟩ := okWide_struct under24 hv
  obtain ⟨n, hn⟩ := h
  have h2 : Try.prog.cellsOf 24 = 2 := by kernel_rfl
  rw [h2] at hsz
  obtain ⟨m, part⟩ := struct_parts under24 hn
  have hfs := fields24
  have f0 := congrArg (fun l => l[0]?) hfs
  have f1 := congrArg (fun l => l[1]?) hfs
  simp only [List.getElem?_map, Array.getElem?_toList, List.getElem?_cons_zero, List.getElem?_cons_succ, Option.map_eq_some_iff, Prod.mk.injEq] at f0 f1
  obtain ⟨g0, e0, _, t0, o0⟩ := f0
  obtain ⟨g1, e1, _, t1, o1⟩ := f1
  have k22 : Try.prog.cellsOf 22 = 1 := by kernel_rfl
  obtain ⟨y0, h0⟩ := part 0 g0 e0
  obtain ⟨y1, h1⟩ := part 1 g1 e1
  rw [t0, o0, k22] at h0
  rw [t1, o1, k22] at h1
  obtain ⟨xs, hxs⟩ : ∃ xs, cs.toList = xs := ⟨_, rfl⟩
  have hl : xs.length = 2 := by rw [← hxs]; simpa using hsz
  simp only [Value.cells, hxs] at h0 h1
  match xs, hl with
  | [x, y], _ =>
    simp only [List.drop_zero, List.drop_succ_cons, List.take_succ_cons, List.take_zero] at h0 h1
    obtain ⟨a, ha⟩ := inn_of h0
    obtain ⟨b, hb⟩ := inn_of h1
    refine ⟨x, y, a, b, ?_, ha, hb⟩
    rw [show cs = #[x, y] from by rw [← Array.toArray_toList (xs := cs), hxs]]
end
end Go.Proofs.Ytadodccciejghaa
