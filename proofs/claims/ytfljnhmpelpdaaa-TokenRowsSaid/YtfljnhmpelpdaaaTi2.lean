/- Are two lists of tokens of any numbers alike; their texts. -/
import Derived.Test.YtfljnhmpelpdaaaTi
import Derived.Test.YtfljnhmpelpdaaaSame
namespace Go.Proofs.Ytfljnhmpelpdaaa
open Go.RowKit

def tiEq (x y : Ti) : Bool := (x.k == y.k) && ((x.t.toList == y.t.toList) && (x.p == y.p))
theorem tiEq_self (x : Ti) : tiEq x x = true := by simp [tiEq]
def stEq (x y : ByteArray) : Bool := x.toList == y.toList
theorem stEq_self (x : ByteArray) : stEq x x = true := by simp [stEq]
theorem neqI42 (x y : Ti) (w : World) : (binOp .neq 42 (.agg #[.int .i64 x.k, .string x.t, .int .i64 x.p]) (.agg #[.int .i64 y.k, .string y.t, .int .i64 y.p])).run Try.prog w = .ok (.bool (!tiEq x y)) w := by
  rw [run_neq_struct, show (10000 : Nat) = 9999 + 1 from rfl, run_equalIn_struct w 9999 42 _ _ under42 held42]
  have hf := fields42
  generalize (Try.prog.fieldsOf 42).toList = fs at hf
  obtain ⟨f1, f2, f3, rfl⟩ : ∃ f1 f2 f3, fs = [f1, f2, f3] := by
    have hl := congrArg List.length hf
    rw [List.length_map] at hl
    rcases fs with _ | ⟨f1, _ | ⟨f2, _ | ⟨f3, _ | ⟨f4, fs⟩⟩⟩⟩
    · cases hl
    · cases hl
    · cases hl
    · exact ⟨f1, f2, f3, rfl⟩
    · simp at hl
  · skip
    simp only [List.map_cons, List.map_nil, List.cons.injEq, Prod.mk.injEq, and_true] at hf
    obtain ⟨⟨n1, t1, o1⟩, ⟨n2, t2, o2⟩, ⟨n3, t3, o3⟩⟩ := hf
    have hA3 : ∀ w : World, (isAgg 3).run Try.prog w = .ok false w := fun w => by simp [isAgg, run_underlying Try.underlying3]
    have hA9 : ∀ w : World, (isAgg 9).run Try.prog w = .ok false w := fun w => by simp [isAgg, run_underlying Try.underlying9]
    have he3 : ∀ (a b : Int) (w : World), (Op.equalIn 9999 3 (.int .i64 a) (.int .i64 b)).run Try.prog w = .ok (a == b) w := fun a b w => run_equalIn_int w 9998 3 .i64 .i64 a b Try.underlying3
    have he9 : ∀ (a b : ByteArray) (w : World), (Op.equalIn 9999 9 (.string a) (.string b)).run Try.prog w = .ok (a.toList == b.toList) w := fun a b w => run_equalIn_string w 9998 9 a b Try.underlying9
    have hp3 : ∀ (vs : Array Value) (i : Nat) (v : Value) (w : World), vs[i]? = some v → (part 3 vs i).run Try.prog w = .ok v w := fun vs i v w h => by simp [part, hA3, h]
    have hp9 : ∀ (vs : Array Value) (i : Nat) (v : Value) (w : World), vs[i]? = some v → (part 9 vs i).run Try.prog w = .ok v w := fun vs i v w h => by simp [part, hA9, h]
    have p0 := fun (z : Ti) (w : World) => hp3 #[.int .i64 z.k, .string z.t, .int .i64 z.p] 0 _ w rfl
    have p1 := fun (z : Ti) (w : World) => hp9 #[.int .i64 z.k, .string z.t, .int .i64 z.p] 1 _ w rfl
    have p2 := fun (z : Ti) (w : World) => hp3 #[.int .i64 z.k, .string z.t, .int .i64 z.p] 2 _ w rfl
    simp only [Op.eqFields, n1, t1, o1, n2, t2, o2, n3, t3, o3]
    unfold tiEq
    cases h1 : (x.k == y.k) <;> cases h2 : (x.t.toList == y.t.toList) <;> cases h3 : (x.p == y.p) <;>
      simp [Sem.run_bind, p0, p1, p2, he3, he9, h1, h2, h3, Result.andThen]
theorem held51 : Try.prog.stoodInHeld 51 = false := by kernel_rfl
theorem under51 : Try.prog.underlying 51 = some (.struct (Try.prog.fieldsOf 51)) := by kernel_rfl
theorem fields51 : (Try.prog.fieldsOf 51).toList.map (fun f => (f.name, f.type, f.offset)) = [("Kind", 3, 0), ("Text", 9, 1), ("At", 3, 2)] := by kernel_rfl
theorem guard51 : Try.prog.eqGuardType Try.prog.depth 51 = false := by kernel_rfl
theorem neqI51 (x y : Ti) (w : World) : (binOp .neq 51 (.agg #[.int .i64 x.k, .string x.t, .int .i64 x.p]) (.agg #[.int .i64 y.k, .string y.t, .int .i64 y.p])).run Try.prog w = .ok (.bool (!tiEq x y)) w := by
  rw [run_neq_struct, show (10000 : Nat) = 9999 + 1 from rfl, run_equalIn_struct w 9999 51 _ _ under51 held51]
  have hf := fields51
  generalize (Try.prog.fieldsOf 51).toList = fs at hf
  obtain ⟨f1, f2, f3, rfl⟩ : ∃ f1 f2 f3, fs = [f1, f2, f3] := by
    have hl := congrArg List.length hf
    rw [List.length_map] at hl
    rcases fs with _ | ⟨f1, _ | ⟨f2, _ | ⟨f3, _ | ⟨f4, fs⟩⟩⟩⟩
    · cases hl
    · cases hl
    · cases hl
    · exact ⟨f1, f2, f3, rfl⟩
    · simp at hl
  · skip
    simp only [List.map_cons, List.map_nil, List.cons.injEq, Prod.mk.injEq, and_true] at hf
    obtain ⟨⟨n1, t1, o1⟩, ⟨n2, t2, o2⟩, ⟨n3, t3, o3⟩⟩ := hf
    have hA3 : ∀ w : World, (isAgg 3).run Try.prog w = .ok false w := fun w => by simp [isAgg, run_underlying Try.underlying3]
    have hA9 : ∀ w : World, (isAgg 9).run Try.prog w = .ok false w := fun w => by simp [isAgg, run_underlying Try.underlying9]
    have he3 : ∀ (a b : Int) (w : World), (Op.equalIn 9999 3 (.int .i64 a) (.int .i64 b)).run Try.prog w = .ok (a == b) w := fun a b w => run_equalIn_int w 9998 3 .i64 .i64 a b Try.underlying3
    have he9 : ∀ (a b : ByteArray) (w : World), (Op.equalIn 9999 9 (.string a) (.string b)).run Try.prog w = .ok (a.toList == b.toList) w := fun a b w => run_equalIn_string w 9998 9 a b Try.underlying9
    have hp3 : ∀ (vs : Array Value) (i : Nat) (v : Value) (w : World), vs[i]? = some v → (part 3 vs i).run Try.prog w = .ok v w := fun vs i v w h => by simp [part, hA3, h]
    have hp9 : ∀ (vs : Array Value) (i : Nat) (v : Value) (w : World), vs[i]? = some v → (part 9 vs i).run Try.prog w = .ok v w := fun vs i v w h => by simp [part, hA9, h]
    have p0 := fun (z : Ti) (w : World) => hp3 #[.int .i64 z.k, .string z.t, .int .i64 z.p] 0 _ w rfl
    have p1 := fun (z : Ti) (w : World) => hp9 #[.int .i64 z.k, .string z.t, .int .i64 z.p] 1 _ w rfl
    have p2 := fun (z : Ti) (w : World) => hp3 #[.int .i64 z.k, .string z.t, .int .i64 z.p] 2 _ w rfl
    simp only [Op.eqFields, n1, t1, o1, n2, t2, o2, n3, t3, o3]
    unfold tiEq
    cases h1 : (x.k == y.k) <;> cases h2 : (x.t.toList == y.t.toList) <;> cases h3 : (x.p == y.p) <;>
      simp [Sem.run_bind, p0, p1, p2, he3, he9, h1, h2, h3, Result.andThen]
end Go.Proofs.Ytfljnhmpelpdaaa
