/- Gates and netlists that were handed in. -/
import Derived.Test.YtfkmolbcgnkfdaaDoorGen
import Derived.Test.YtfkmolbcgnkfdaaDoorNets
import Derived.ChangeArms
namespace Go.Proofs.YtfkmolbcgnkfdaaDoor
open Go.RowKit
set_option maxRecDepth 100000

theorem under58q : Tryd.prog.underlying 58 = some (.struct (Tryd.prog.fieldsOf 58)) := by kernel_rfl
theorem fields58q : (Tryd.prog.fieldsOf 58).toList.map (fun f => (f.name, f.type, f.offset)) = [("Name", 9, 0), ("Next", 9, 1), ("Init", 3, 2)] := by kernel_rfl
theorem under39q : Tryd.prog.underlying 39 = some (.struct (Tryd.prog.fieldsOf 39)) := by kernel_rfl
theorem fields39q : (Tryd.prog.fieldsOf 39).toList.map (fun f => (f.name, f.type, f.offset)) = [("Name", 9, 0), ("Op", 37, 1), ("Ins", 22, 2), ("Rows", 22, 3), ("Off", 4, 4)] := by kernel_rfl
theorem under26q : Tryd.prog.underlying 26 = some (.struct (Tryd.prog.fieldsOf 26)) := by kernel_rfl
theorem fields26q : (Tryd.prog.fieldsOf 26).toList.map (fun f => (f.name, f.type, f.offset)) = [("Inputs", 22, 0), ("Outputs", 22, 1), ("Latches", 23, 2), ("Gates", 24, 3)] := by kernel_rfl
section
open Go.WideShapes Go.ChangeShapes Go.Deep
variable {H : Type} {enc : TypeId × Value → H} {W : World}
theorem str_of (n : Nat) (xs : List Value) (y : DataW H × List MemPlace) (h : DataW.trod enc Tryd.prog W 0 (fun _ => true) true n 9 xs = some y) : ∃ x : ByteArray, xs = stc x ∧ x.size ≤ maxLen := by
  obtain ⟨s, h1, h2⟩ := trod_string_is Tryd.underlying9 h
  exact ⟨s, h1, h2⟩
theorem inn_of {n : Nat} {v : Value} {y : DataW H × List MemPlace} (h : DataW.trod enc Tryd.prog W 0 (fun _ => true) true n 22 [v] = some y) : ∃ l, Inn W v l := by
  obtain ⟨l, h1, h2, h3, h4, h5⟩ := lst_of_trodQ (ec := stc) (z := 1) Tryd.underlying22 (by kernel_rfl) (by decide) stc_len (fun n xs y h _ => str_of n xs y h) (d := y.1) (p := y.2) h
  exact ⟨l, h1, h2, h3, h4, h5⟩
theorem open_list {r : Reach} {b0 : Nat} {v : Value} {d : DataW H} {p : List MemPlace} (hv : Value.okWide Tryd.prog W r b0 22 v) (h : DataW.Trod enc Tryd.prog W 0 (fun _ => true) true 22 v d p) : ∃ l, Inn W v l := by
  obtain ⟨l, h1, h2, h3, h4, h5⟩ := open_lstC (ec := stc) (z := 1) Tryd.underlying22 (by kernel_rfl) (by decide) stc_len (fun n xs y h _ => str_of n xs y h) hv h
  exact ⟨l, h1, h2, h3, h4, h5⟩
theorem la_of (n : Nat) (xs : List Value) (y : DataW H × List MemPlace) (h : DataW.trod enc Tryd.prog W 0 (fun _ => true) true n 58 xs = some y) (hl : xs.length = 3) : ∃ x : La, xs = lec x ∧ ((x.name.size ≤ maxLen ∧ x.next.size ≤ maxLen) ∧ (Lit.int .i64 x.init).wf = true) := by
  obtain ⟨m, part⟩ := struct_parts under58q h
  have hfs := fields58q
  have f0 := congrArg (fun l => l[0]?) hfs
  have f1 := congrArg (fun l => l[1]?) hfs
  have f2 := congrArg (fun l => l[2]?) hfs
  simp only [List.getElem?_map, Array.getElem?_toList, List.getElem?_cons_zero, List.getElem?_cons_succ, Option.map_eq_some_iff, Prod.mk.injEq] at f0 f1 f2
  obtain ⟨g0, e0, _, t0, o0⟩ := f0
  obtain ⟨g1, e1, _, t1, o1⟩ := f1
  obtain ⟨g2, e2, _, t2, o2⟩ := f2
  have k3 : Tryd.prog.cellsOf 3 = 1 := by kernel_rfl
  have k9 : Tryd.prog.cellsOf 9 = 1 := by kernel_rfl
  obtain ⟨y0, h0⟩ := part 0 g0 e0
  obtain ⟨y1, h1⟩ := part 1 g1 e1
  obtain ⟨y2, h2⟩ := part 2 g2 e2
  rw [t0, o0, k9] at h0
  rw [t1, o1, k9] at h1
  rw [t2, o2, k3] at h2
  match xs, hl with
  | [a, b, c], _ =>
    simp only [List.drop_zero, List.drop_succ_cons, List.take_succ_cons, List.take_zero] at h0 h1 h2
    obtain ⟨x0, q0, z0⟩ := trod_string_is Tryd.underlying9 h0
    obtain ⟨x1, q1, z1⟩ := trod_string_is Tryd.underlying9 h1
    obtain ⟨x2, q2, z2⟩ := trod_int_is Tryd.underlying3 h2
    simp only [List.cons.injEq, and_true] at q0 q1 q2
    subst q0 q1 q2
    exact ⟨⟨x0, x1, x2⟩, rfl, ⟨z0, z1⟩, z2⟩
theorem gr_of (n : Nat) (xs : List Value) (y : DataW H × List MemPlace) (h : DataW.trod enc Tryd.prog W 0 (fun _ => true) true n 39 xs = some y) (hl : xs.length = 5) : ∃ r : Gr, xs = gec r ∧ ∃ g : Gt, GtAt W r g := by
  obtain ⟨m, part⟩ := struct_parts under39q h
  have hfs := fields39q
  have f0 := congrArg (fun l => l[0]?) hfs
  have f1 := congrArg (fun l => l[1]?) hfs
  have f2 := congrArg (fun l => l[2]?) hfs
  have f3 := congrArg (fun l => l[3]?) hfs
  have f4 := congrArg (fun l => l[4]?) hfs
  simp only [List.getElem?_map, Array.getElem?_toList, List.getElem?_cons_zero, List.getElem?_cons_succ, Option.map_eq_some_iff, Prod.mk.injEq] at f0 f1 f2 f3 f4
  obtain ⟨g0, e0, _, t0, o0⟩ := f0
  obtain ⟨g1, e1, _, t1, o1⟩ := f1
  obtain ⟨g2, e2, _, t2, o2⟩ := f2
  obtain ⟨g3, e3, _, t3, o3⟩ := f3
  obtain ⟨g4, e4, _, t4, o4⟩ := f4
  have k4 : Tryd.prog.cellsOf 4 = 1 := by kernel_rfl
  have k9 : Tryd.prog.cellsOf 9 = 1 := by kernel_rfl
  have k22 : Tryd.prog.cellsOf 22 = 1 := by kernel_rfl
  have k37 : Tryd.prog.cellsOf 37 = 1 := by kernel_rfl
  obtain ⟨y0, h0⟩ := part 0 g0 e0
  obtain ⟨y1, h1⟩ := part 1 g1 e1
  obtain ⟨y2, h2⟩ := part 2 g2 e2
  obtain ⟨y3, h3⟩ := part 3 g3 e3
  obtain ⟨y4, h4⟩ := part 4 g4 e4
  rw [t0, o0, k9] at h0
  rw [t1, o1, k37] at h1
  rw [t2, o2, k22] at h2
  rw [t3, o3, k22] at h3
  rw [t4, o4, k4] at h4
  match xs, hl with
  | [a, b, c, d, e], _ =>
    simp only [List.drop_zero, List.drop_succ_cons, List.take_succ_cons, List.take_zero] at h0 h1 h2 h3 h4
    obtain ⟨x0, q0, z0⟩ := trod_string_is Tryd.underlying9 h0
    obtain ⟨x1, q1, z1⟩ := trod_int_is Tryd.underlying37 h1
    obtain ⟨l2, i2⟩ := inn_of h2
    obtain ⟨l3, i3⟩ := inn_of h3
    obtain ⟨x4, q4⟩ := trod_bool_is Tryd.underlying4 h4
    simp only [List.cons.injEq, and_true] at q0 q1 q4
    subst q0 q1 q4
    exact ⟨⟨x0, x1, c, d, x4⟩, rfl, ⟨x0, x1, l2, l3, x4⟩, rfl, rfl, rfl, i2, i3, z0, z1⟩
theorem las_of {n : Nat} {v : Value} {y : DataW H × List MemPlace} (h : DataW.trod enc Tryd.prog W 0 (fun _ => true) true n 23 [v] = some y) : ∃ l, Las W v l := by
  obtain ⟨l, h1, h2, h3, h4, h5⟩ := lst_of_trodQ (ec := lec) (z := 3) (Q := fun x : La => ((x.name.size ≤ maxLen ∧ x.next.size ≤ maxLen) ∧ (Lit.int .i64 x.init).wf = true)) Tryd.underlying23 (by kernel_rfl) (by decide) lec_len la_of (d := y.1) (p := y.2) h
  exact ⟨l, h1, fun x hx => (h3 x hx).1, fun x hx => (h3 x hx).2⟩
theorem gts_list : ∀ l : List Gr, (∀ r ∈ l, ∃ g : Gt, GtAt W r g) → ∃ gs : List Gt, l.length = gs.length ∧ ∀ (i : Nat) (r : Gr) (g : Gt), l[i]? = some r → gs[i]? = some g → GtAt W r g
  | [], _ => ⟨[], rfl, fun i r g h => by simp at h⟩
  | r :: l, h => by
    obtain ⟨g, hg⟩ := h r List.mem_cons_self
    obtain ⟨gs, hl, hall⟩ := gts_list l (fun r hr => h r (List.mem_cons_of_mem _ hr))
    refine ⟨g :: gs, by simp [hl], fun i r' g' h1 h2 => ?_⟩
    cases i with
    | zero =>
      obtain rfl : r = r' := by simpa using h1
      obtain rfl : g = g' := by simpa using h2
      exact hg
    | succ i => exact hall i r' g' (by simpa using h1) (by simpa using h2)
theorem gts_of {n : Nat} {v : Value} {y : DataW H × List MemPlace} (h : DataW.trod enc Tryd.prog W 0 (fun _ => true) true n 24 [v] = some y) : ∃ l, Gts W v l := by
  obtain ⟨l, h1, h2, h3, h4, h5⟩ := lst_of_trodQ (ec := gec) (z := 5) (Q := fun r : Gr => ∃ g : Gt, GtAt W r g) Tryd.underlying24 (by kernel_rfl) (by decide) gec_len gr_of (d := y.1) (p := y.2) h
  obtain ⟨gs, hl, hall⟩ := gts_list l h3
  exact ⟨gs, l, h1, hl, hall⟩
theorem open_gate {r : Reach} {b0 : Nat} {v : Value} {d : DataW H} {p : List MemPlace} (hv : Value.okWide Tryd.prog W r b0 39 v) (h : DataW.Trod enc Tryd.prog W 0 (fun _ => true) true 39 v d p) :
    ∃ (g : Gt) (x y : Value), v = .agg #[.string g.name, .int .i64 g.op, x, y, .bool g.off] ∧ Inn W x g.ins ∧ Inn W y g.rows ∧ (Lit.int .i64 g.op).wf = true := by
  obtain ⟨cs, rfl, hsz⟩ := okWide_struct under39q hv
  obtain ⟨n, hn⟩ := h
  have h2 : Tryd.prog.cellsOf 39 = 5 := by kernel_rfl
  rw [h2] at hsz
  obtain ⟨r, hr, g, hat⟩ := gr_of n _ _ hn (by simpa [Value.cells] using hsz)
  have e : cs.toList = gec r := by simpa [Value.cells] using hr
  refine ⟨g, r.vi, r.vr, ?_, hat.ins, hat.rows, hat.wf⟩
  rw [show cs = (gec r).toArray from by rw [← e]]
  rw [← hat.name, ← hat.op, ← hat.off]
  rfl
theorem open_ci {r : Reach} {b0 : Nat} {v : Value} {d : DataW H} {p : List MemPlace} (hv : Value.okWide Tryd.prog W r b0 26 v) (h : DataW.Trod enc Tryd.prog W 0 (fun _ => true) true 26 v d p) :
    ∃ (c : Ci) (a b l g : Value), v = .agg #[a, b, l, g] ∧ Cir W a b l g c := by
  obtain ⟨cs, rfl, hsz⟩ := okWide_struct under26q hv
  obtain ⟨n, hn⟩ := h
  have h2 : Tryd.prog.cellsOf 26 = 4 := by kernel_rfl
  rw [h2] at hsz
  obtain ⟨m, part⟩ := struct_parts under26q hn
  have hfs := fields26q
  have f0 := congrArg (fun l => l[0]?) hfs
  have f1 := congrArg (fun l => l[1]?) hfs
  have f2 := congrArg (fun l => l[2]?) hfs
  have f3 := congrArg (fun l => l[3]?) hfs
  simp only [List.getElem?_map, Array.getElem?_toList, List.getElem?_cons_zero, List.getElem?_cons_succ, Option.map_eq_some_iff, Prod.mk.injEq] at f0 f1 f2 f3
  obtain ⟨g0, e0, _, t0, o0⟩ := f0
  obtain ⟨g1, e1, _, t1, o1⟩ := f1
  obtain ⟨g2, e2, _, t2, o2⟩ := f2
  obtain ⟨g3, e3, _, t3, o3⟩ := f3
  have k22 : Tryd.prog.cellsOf 22 = 1 := by kernel_rfl
  have k23 : Tryd.prog.cellsOf 23 = 1 := by kernel_rfl
  have k24 : Tryd.prog.cellsOf 24 = 1 := by kernel_rfl
  obtain ⟨y0, h0⟩ := part 0 g0 e0
  obtain ⟨y1, h1⟩ := part 1 g1 e1
  obtain ⟨y2, h2⟩ := part 2 g2 e2
  obtain ⟨y3, h3⟩ := part 3 g3 e3
  rw [t0, o0, k22] at h0
  rw [t1, o1, k22] at h1
  rw [t2, o2, k23] at h2
  rw [t3, o3, k24] at h3
  obtain ⟨xs, hxs⟩ : ∃ xs, cs.toList = xs := ⟨_, rfl⟩
  have hl : xs.length = 4 := by rw [← hxs]; simpa using hsz
  simp only [Value.cells, hxs] at h0 h1 h2 h3
  match xs, hl with
  | [x, y, z, u], _ =>
    simp only [List.drop_zero, List.drop_succ_cons, List.take_succ_cons, List.take_zero] at h0 h1 h2 h3
    obtain ⟨a, ha⟩ := inn_of h0
    obtain ⟨b, hb⟩ := inn_of h1
    obtain ⟨l, hl⟩ := las_of h2
    obtain ⟨g, hg⟩ := gts_of h3
    refine ⟨⟨a, b, l, g⟩, x, y, z, u, ?_, ha, hb, hl, hg⟩
    rw [show cs = #[x, y, z, u] from by rw [← Array.toArray_toList (xs := cs), hxs]]
end
end Go.Proofs.YtfkmolbcgnkfdaaDoor
