/- Are two lists of tokens alike. -/
import Derived.Test.YtfljnhmpelpdaaaTexts
import Derived.Laws.StructEq
namespace Go.Proofs.Ytfljnhmpelpdaaa
open Go.RowKit

def tkEq (x y : Tk) : Bool := ((x.k : Int) == (y.k : Int)) && ((x.t.toList == y.t.toList) && ((x.p : Int) == (y.p : Int)))
theorem held42 : Try.prog.stoodInHeld 42 = false := by kernel_rfl
theorem under42 : Try.prog.underlying 42 = some (.struct (Try.prog.fieldsOf 42)) := by kernel_rfl
theorem fields42 : (Try.prog.fieldsOf 42).toList.map (fun f => (f.name, f.type, f.offset)) = [("Kind", 3, 0), ("Text", 9, 1), ("At", 3, 2)] := by kernel_rfl
theorem guard42 : Try.prog.eqGuardType Try.prog.depth 42 = false := by kernel_rfl
theorem neq42 (x y : Tk) (w : World) : (binOp .neq 42 (.agg #[.int .i64 (x.k : Int), .string x.t, .int .i64 (x.p : Int)]) (.agg #[.int .i64 (y.k : Int), .string y.t, .int .i64 (y.p : Int)])).run Try.prog w = .ok (.bool (!tkEq x y)) w := by
  rw [run_neq_struct, show (10000 : Nat) = 9999 + 1 from rfl, run_equalIn_struct w 9999 42 _ _ under42 held42]
  have hf := fields42
  generalize (Try.prog.fieldsOf 42).toList = fs at hf
  obtain ⟨f1, f2, f3, rfl⟩ : ∃ f1 f2 f3, fs = [f1, f2, f3] := by
    have hl := congrArg List.length hf
    rw [List.length_map] at hl
    rcases fs with _ | ⟨f1, _ | ⟨f2, _ | ⟨f3, _ | ⟨f4, fs⟩⟩⟩⟩
    · cases hl
    · cases hl
    · cases hl
    · exact ⟨f1, f2, f3, rfl⟩
    · simp at hl
  · skip
    simp only [List.map_cons, List.map_nil, List.cons.injEq, Prod.mk.injEq, and_true] at hf
    obtain ⟨⟨n1, t1, o1⟩, ⟨n2, t2, o2⟩, ⟨n3, t3, o3⟩⟩ := hf
    have hA3 : ∀ w : World, (isAgg 3).run Try.prog w = .ok false w := fun w => by simp [isAgg, run_underlying Try.underlying3]
    have hA9 : ∀ w : World, (isAgg 9).run Try.prog w = .ok false w := fun w => by simp [isAgg, run_underlying Try.underlying9]
    have he3 : ∀ (a b : Int) (w : World), (Op.equalIn 9999 3 (.int .i64 a) (.int .i64 b)).run Try.prog w = .ok (a == b) w := fun a b w => run_equalIn_int w 9998 3 .i64 .i64 a b Try.underlying3
    have he9 : ∀ (a b : ByteArray) (w : World), (Op.equalIn 9999 9 (.string a) (.string b)).run Try.prog w = .ok (a.toList == b.toList) w := fun a b w => run_equalIn_string w 9998 9 a b Try.underlying9
    have hp3 : ∀ (vs : Array Value) (i : Nat) (v : Value) (w : World), vs[i]? = some v → (part 3 vs i).run Try.prog w = .ok v w := fun vs i v w h => by simp [part, hA3, h]
    have hp9 : ∀ (vs : Array Value) (i : Nat) (v : Value) (w : World), vs[i]? = some v → (part 9 vs i).run Try.prog w = .ok v w := fun vs i v w h => by simp [part, hA9, h]
    have p0 := fun (z : Tk) (w : World) => hp3 #[.int .i64 (z.k : Int), .string z.t, .int .i64 (z.p : Int)] 0 _ w rfl
    have p1 := fun (z : Tk) (w : World) => hp9 #[.int .i64 (z.k : Int), .string z.t, .int .i64 (z.p : Int)] 1 _ w rfl
    have p2 := fun (z : Tk) (w : World) => hp3 #[.int .i64 (z.k : Int), .string z.t, .int .i64 (z.p : Int)] 2 _ w rfl
    simp only [Op.eqFields, n1, t1, o1, n2, t2, o2, n3, t3, o3]
    unfold tkEq
    cases h1 : ((x.k : Int) == (y.k : Int)) <;> cases h2 : (x.t.toList == y.t.toList) <;> cases h3 : ((x.p : Int) == (y.p : Int)) <;>
      simp [Sem.run_bind, p0, p1, p2, he3, he9, h1, h2, h3, Result.andThen]
end Go.Proofs.Ytfljnhmpelpdaaa
