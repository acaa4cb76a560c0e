/- A gate in one way: all cases. -/
import Derived.Test.YtfkmolbcgnkfdaaDoorCanon2
import Derived.Test.YtfkmolbcgnkfdaaDoorCanon3
namespace Go.Proofs.YtfkmolbcgnkfdaaDoor
open Go.RowKit
set_option maxRecDepth 100000
theorem canon_any (g : Gt) (vi vr : Value) (w : World) (hi : Inn w vi g.ins) (hr : Inn w vr g.rows) (hil : g.ins.length ≤ 100000) (hrl : g.rows.length ≤ 100000) (hz : g.name.size ≤ maxLen) (hw : (Lit.int .i64 g.op).wf = true) :
    Calls Tryd.prog 25 #[.agg #[.string g.name, .int .i64 g.op, vi, vr, .bool g.off]] w fun e w' => ∃ r : Gr, e = .returned (.agg #[.string r.name, .int .i64 r.op, r.vi, r.vr, .bool r.off]) ∧ GtAt w' r (canonF g) ∧ Below w.heap.size w w' := by
  by_cases h10 : g.op = 10
  · obtain ⟨o, b, hq⟩ : ∃ o b, opC g = (o, b) := ⟨_, _, rfl⟩
    cases b
    · have e : canonF g = g := by unfold canonF; rw [if_pos h10, hq]; rfl
      rw [e]
      exact canon_no g vi vr o w hi hr hil hrl hz hw h10 hq
    · have e : canonF g = ⟨g.name, o, g.ins, [], false⟩ := by unfold canonF; rw [if_pos h10, hq]; rfl
      rw [e]
      exact canon_ok g vi vr o w hi hr hil hrl hz hw h10 hq
  · by_cases h1 : g.ins.length = 1
    · by_cases h2 : g.rows.length = 0
      · cases h3 : g.off
        · have e : canonF g = ⟨g.name, oneF g.op, g.ins, g.rows, g.off⟩ := by unfold canonF; rw [if_neg h10, if_pos ⟨h1, h2, h3⟩]
          rw [e]
          exact canon_one g vi vr w hi hr hil hrl hz hw h10 h1 h2 h3
        · have e : canonF g = g := by unfold canonF; rw [if_neg h10, if_neg (fun h => by rw [h3] at h; exact absurd h.2.2 (by decide))]
          rw [e]
          exact canon_same3 g vi vr w hi hr hil hrl hz hw h10 h1 h2 h3
      · have e : canonF g = g := by unfold canonF; rw [if_neg h10, if_neg (fun h => h2 h.2.1)]
        rw [e]
        exact canon_same2 g vi vr w hi hr hil hrl hz hw h10 h1 h2
    · have e : canonF g = g := by unfold canonF; rw [if_neg h10, if_neg (fun h => h1 h.1)]
      rw [e]
      exact canon_same1 g vi vr w hi hr hil hrl hz hw h10 h1
end Go.Proofs.YtfkmolbcgnkfdaaDoor
