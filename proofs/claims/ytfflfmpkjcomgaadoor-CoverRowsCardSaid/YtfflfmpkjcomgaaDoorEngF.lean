/- The engine, F: what runs, runs inside of a fence that lets all in; in a round of a range over a function too. -/
import Derived.Test.YtfflfmpkjcomgaaDoorEng8
import Derived.OrdersIn
import Derived.RangeFuncCalls
namespace Go.Proofs.YtfflfmpkjcomgaaDoor
open Go.RowKit

/-- the fence that lets all in: outside of rounds, and in one -/
def FW : Option Nat → Fence
  | none => Fence.wide
  | some l => Fence.wide.inRound l
section
variable {P : Program} {ro : Option Nat} {n : Nat}
theorem FW_fn (f : FuncId) : (FW ro).fn f := by cases ro <;> trivial
theorem FW_depth : (FW ro).depth = none := by cases ro <;> rfl
theorem FW_round : (FW ro).round = ro := by cases ro <;> rfl
theorem FW_room (m : Nat) : (FW ro).room m := fun d h => by rw [FW_depth] at h; cases h
theorem stepsIn_FW {m m' : Machine} : StepsIn (Machine.fenced P (FW ro)) P m m' ↔ Steps P m m' := by
  cases ro
  · exact stepsIn_wide
  · exact stepsIn_wide
theorem callsIn_FW {f : FuncId} {args : Array Value} {w : World} {R : Ending → World → Prop} : CallsIn (FW ro) n P f args w R ↔ Calls P f args w R := by
  cases ro
  · exact callsIn_wide
  · exact callsIn_wide (n := n)
theorem rowsIn_FW {row : String} {args : Array Value} {w : World} {R : Value → World → Prop} (h : Rows P row args w R) : RowsIn (FW ro) n P row args w R := fun c cs _ => by
  obtain ⟨v, w', r, s⟩ := h c cs
  exact ⟨v, w', r, stepsIn_FW.2 s⟩
/-- an operation that runs, runs inside of the fence -/
theorem wp_in {o : Oper} {a : Act} {w : World} {K : Act → World → Prop} {Q : Exit → Act → World → Prop} (hd : ∀ c, o.op ≠ .defer c) (h : o.wp P a w K Q) : o.wpIn (FW ro) n P a w K Q := by
  refine ⟨fun f _ => FW_fn f, ?_⟩
  rw [Oper.semAt_eq _ _ _ hd]
  unfold Oper.wp at h
  generalize (execOp a.eval o).run P w = r at h ⊢
  cases r with
  | ok x w' =>
    cases x <;> first
      | exact h
      | exact h.elim
      | exact ⟨fun e => (by rw [FW_depth] at e; cases e), callsIn_FW.2 h⟩
      | exact ⟨fun e => (by rw [FW_depth] at e; cases e), rowsIn_FW h⟩
  | halt x w' => cases x <;> first
    | exact h
    | exact h.elim
end
end Go.Proofs.YtfflfmpkjcomgaaDoor
