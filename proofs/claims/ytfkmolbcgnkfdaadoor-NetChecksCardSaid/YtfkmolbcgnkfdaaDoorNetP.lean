/- Netlists, plainly. -/
import Derived.Test.YtfkmolbcgnkfdaaDoorGen
namespace Go.Proofs.YtfkmolbcgnkfdaaDoor

structure Gt where
  name : ByteArray
  op : Int
  ins : List ByteArray
  rows : List ByteArray
  off : Bool
structure La where
  name : ByteArray
  next : ByteArray
  init : Int
structure Ci where
  ins : List ByteArray
  outs : List ByteArray
  las : List La
  gts : List Gt
def netsC (c : Ci) : List ByteArray := c.ins ++ (c.las.map (·.name) ++ c.gts.map (·.name))
/-- the place of a text; -1 -/
def placeL : List ByteArray → ByteArray → Int
  | [], _ => -1
  | x :: l, s => if stEq x s = true then 0 else if placeL l s = -1 then -1 else placeL l s + 1
def signB (c : UInt8) : Bool := c == 48 || (c == 49 || c == 45)
def rowB (n : Nat) (s : ByteArray) : Bool := decide (s.size = n) && s.data.toList.all signB
def gateB (g : Gt) : Bool :=
  if g.op = 10 then decide (g.ins.length ≤ 8) && (decide (g.rows.length ≤ 128) && g.rows.all (rowB g.ins.length))
  else g.rows.isEmpty && (!g.off && (if g.op = 0 ∨ g.op = 1 then decide (g.ins.length = 0) else if g.op = 2 ∨ g.op = 3 then decide (g.ins.length = 1) else decide (4 ≤ g.op ∧ g.op ≤ 9) && decide (2 ≤ g.ins.length ∧ g.ins.length ≤ 8)))
def bigG (g : Gt) : Bool := decide (8 < g.ins.length) || decide (128 < g.rows.length)
def limitB (c : Ci) : Bool := decide (200 < c.ins.length + c.las.length + c.gts.length) || (decide (200 < c.outs.length) || c.gts.any bigG)
def toldC (c : Ci) : List ByteArray := c.ins ++ (c.outs ++ (c.las.flatMap (fun l => [l.name, l.next]) ++ c.gts.flatMap (fun g => g.name :: g.ins)))
def usedC (c : Ci) : List ByteArray := c.outs ++ (c.las.map (·.next) ++ c.gts.flatMap (·.ins))
/-- the first text that is there ahead of it, too -/
def twiceF : List ByteArray → List ByteArray → Option ByteArray
  | _, [] => none
  | pre, x :: l => if usedB pre x = true then some x else twiceF (pre ++ [x]) l
def initB (l : La) : Bool := decide (0 ≤ l.init) && decide (l.init ≤ 2)
def noneT : ByteArray := ⟨#[]⟩
/-- what is wrong with a netlist, and the name that is told -/
def checkC (c : Ci) : Int × ByteArray :=
  if limitB c = true then (8, noneT) else
  match (toldC c).find? (fun s => !nameB s) with
  | some s => (4, s)
  | none => match twiceF [] (netsC c) with
    | some s => (5, s)
    | none => match twiceF [] c.outs with
      | some s => (5, s)
      | none => match c.las.find? (fun l => !initB l) with
        | some l => (1, l.name)
        | none => match c.gts.find? (fun g => !gateB g) with
          | some g => (1, g.name)
          | none => match (usedC c).find? (fun s => !usedB (netsC c) s) with
            | some s => (6, s)
            | none => (0, noneT)

/-! the readings -/
structure Gr where
  name : ByteArray
  op : Int
  vi : Value
  vr : Value
  off : Bool
def gec (g : Gr) : List Value := [.string g.name, .int .i64 g.op, g.vi, g.vr, .bool g.off]
def lec (l : La) : List Value := [.string l.name, .string l.next, .int .i64 l.init]
theorem gec_len (g : Gr) : (gec g).length = 5 := rfl
theorem lec_len (l : La) : (lec l).length = 3 := rfl
open Go.RowKit
structure GtAt (W : World) (r : Gr) (g : Gt) : Prop where
  name : r.name = g.name
  op : r.op = g.op
  off : r.off = g.off
  ins : Inn W r.vi g.ins
  rows : Inn W r.vr g.rows
  size : g.name.size ≤ maxLen
  wf : (Lit.int .i64 g.op).wf = true
theorem GtAt.below {W W' : World} {r : Gr} {g : Gt} (h : GtAt W r g) (hb : Below W.heap.size W W') : GtAt W' r g := ⟨h.name, h.op, h.off, h.ins.below hb, h.rows.below hb, h.size, h.wf⟩
/-- a slice of gates -/
def Gts (W : World) (v : Value) (l : List Gt) : Prop := ∃ rs : List Gr, Lst gec W v rs ∧ rs.length = l.length ∧ ∀ (i : Nat) (r : Gr) (g : Gt), rs[i]? = some r → l[i]? = some g → GtAt W r g
theorem Gts.below {W W' : World} {v : Value} {l : List Gt} (h : Gts W v l) (hb : Below W.heap.size W W') : Gts W' v l := by
  obtain ⟨rs, h1, h2, h3⟩ := h
  exact ⟨rs, h1.below hb, h2, fun i r g a b => (h3 i r g a b).below hb⟩
theorem Gts.slice {W : World} {v : Value} {l : List Gt} (h : Gts W v l) : ∃ b c, v = .slice b l.length c := by
  obtain ⟨rs, h1, h2, _⟩ := h
  obtain ⟨b, c, e⟩ := h1.slice
  exact ⟨b, c, h2 ▸ e⟩
theorem Gts.nil {W : World} : Gts W (.slice none 0 0) [] := ⟨[], Lst.nil, rfl, fun i r g h => by simp at h⟩
/-- a gate's cells -/
theorem Gts.at_ {W : World} {v : Value} {l : List Gt} (h : Gts W v l) {k : Nat} (hk : k < l.length) :
    ∃ g o c x r, l[k]? = some x ∧ GtAt W r x ∧ v = .slice (some ⟨g, o, none⟩) l.length c ∧ g < W.heap.size ∧ W.cell? ⟨g, o + k * 5, none⟩ = some (.string x.name) ∧ W.cell? ⟨g, o + k * 5 + 1, none⟩ = some (.int .i64 x.op) ∧
      W.cell? ⟨g, o + k * 5 + 2, none⟩ = some r.vi ∧ W.cell? ⟨g, o + k * 5 + 3, none⟩ = some r.vr ∧ W.cell? ⟨g, o + k * 5 + 4, none⟩ = some (.bool x.off) := by
  obtain ⟨rs, h1, h2, h3⟩ := h
  obtain ⟨g, o, c, r, hr, hv, hg, hc⟩ := h1.at_ gec_len (show k < rs.length by omega)
  have hx : l[k]? = some l[k] := List.getElem?_eq_getElem hk
  have ha := h3 k r _ hr hx
  refine ⟨g, o, c, _, r, hx, ha, by rw [hv, h2], hg, ?_, ?_, ?_, ?_, ?_⟩
  · rw [← ha.name]; exact hc 0 (by omega)
  · rw [← ha.op]; exact hc 1 (by omega)
  · exact hc 2 (by omega)
  · exact hc 3 (by omega)
  · rw [← ha.off]; exact hc 4 (by omega)
/-- a slice of latches -/
structure Las (W : World) (v : Value) (l : List La) : Prop where
  lst : Lst lec W v l
  size : ∀ x ∈ l, x.name.size ≤ maxLen ∧ x.next.size ≤ maxLen
  wf : ∀ x ∈ l, (Lit.int .i64 x.init).wf = true
theorem Las.below {W W' : World} {v : Value} {l : List La} (h : Las W v l) (hb : Below W.heap.size W W') : Las W' v l := ⟨h.lst.below hb, h.size, h.wf⟩
theorem Las.nil {W : World} : Las W (.slice none 0 0) [] := ⟨Lst.nil, by simp, by simp⟩
theorem Las.at_ {W : World} {v : Value} {l : List La} (h : Las W v l) {k : Nat} (hk : k < l.length) :
    ∃ g o c x, l[k]? = some x ∧ v = .slice (some ⟨g, o, none⟩) l.length c ∧ g < W.heap.size ∧ W.cell? ⟨g, o + k * 3, none⟩ = some (.string x.name) ∧ W.cell? ⟨g, o + k * 3 + 1, none⟩ = some (.string x.next) ∧ W.cell? ⟨g, o + k * 3 + 2, none⟩ = some (.int .i64 x.init) := by
  obtain ⟨g, o, c, x, hx, hv, hg, hc⟩ := h.lst.at_ lec_len hk
  exact ⟨g, o, c, x, hx, hv, hg, hc 0 (by omega), hc 1 (by omega), hc 2 (by omega)⟩
/-- a netlist -/
structure Cir (W : World) (a b l g : Value) (c : Ci) : Prop where
  ins : Inn W a c.ins
  outs : Inn W b c.outs
  las : Las W l c.las
  gts : Gts W g c.gts
theorem Cir.below {W W' : World} {a b l g : Value} {c : Ci} (h : Cir W a b l g c) (hb : Below W.heap.size W W') : Cir W' a b l g c := ⟨h.ins.below hb, h.outs.below hb, h.las.below hb, h.gts.below hb⟩
theorem Cir.slices {W : World} {a b l g : Value} {c : Ci} (h : Cir W a b l g c) :
    ∃ p q p' q' p2 q2 p3 q3, a = .slice p c.ins.length q ∧ b = .slice p' c.outs.length q' ∧ l = .slice p2 c.las.length q2 ∧ g = .slice p3 c.gts.length q3 := by
  obtain ⟨p, q, h1⟩ := h.ins.lst.slice
  obtain ⟨p', q', h2⟩ := h.outs.lst.slice
  obtain ⟨p2, q2, h3⟩ := h.las.lst.slice
  obtain ⟨p3, q3, h4⟩ := h.gts.slice
  exact ⟨p, q, p', q', p2, q2, p3, q3, h1, h2, h3, h4⟩
end Go.Proofs.YtfkmolbcgnkfdaaDoor
