/- Two arrays of two numbers are compared. -/
import Derived.Test.YtkemaaohmfdhbaaAts
namespace Go.Proofs.Ytkemaaohmfdhbaa
open Go.RowKit

theorem u3 : Try.prog.underlying 3 = some (.int .i64) := by kernel_rfl
theorem u47 : Try.prog.underlying 47 = some (.array 2 3) := by kernel_rfl
theorem info3 : (Try.prog.info? 3).map (fun i => (i.zero, i.size, i.bytes)) = some (some (.int .i64 0), 1, 8) := by kernel_rfl

theorem eql2 (a b c d : Int) (w : World) :
    Sem.run Try.prog (Op.equalIn 10000 47 (.agg #[.int .i64 a, .int .i64 b]) (.agg #[.int .i64 c, .int .i64 d])) w = .ok (decide ((a, b) = (c, d))) w := by
  obtain ⟨i0, hi, hz0, hz1, hz2⟩ := info_parts info3
  have he : ∀ (x y : Int) (w : World), (Op.equalIn 9999 3 (.int .i64 x) (.int .i64 y)).run Try.prog w = .ok (x == y) w := fun x y w => run_equalIn_int w 9998 3 .i64 .i64 x y u3
  rw [show (10000 : Nat) = 9999 + 1 from rfl, Op.equalIn]
  simp only [Sem.run_bind, run_underlying u47, Result.andThen_ok]
  have hA : ∀ w : World, (isAgg 3).run Try.prog w = .ok false w := fun w => by
    simp [isAgg, run_underlying u3]
  have hp : ∀ (vs : Array Value) (i : Nat) (v : Value) (w : World), vs[i]? = some v → (part 3 vs i).run Try.prog w = .ok v w := fun vs i v w h => by
    simp [part, hA, h]
  have hs : ∀ w : World, (sizeOf 3).run Try.prog w = .ok 1 w := fun w => by simp [sizeOf, typeInfo, hi, hz1]
  have h0 : ∀ w : World, (part 3 #[.int .i64 a, .int .i64 b] 0).run Try.prog w = .ok (.int .i64 a) w := fun w => hp _ _ _ _ rfl
  have h1 : ∀ w : World, (part 3 #[.int .i64 a, .int .i64 b] 1).run Try.prog w = .ok (.int .i64 b) w := fun w => hp _ _ _ _ rfl
  have h2 : ∀ w : World, (part 3 #[.int .i64 c, .int .i64 d] 0).run Try.prog w = .ok (.int .i64 c) w := fun w => hp _ _ _ _ rfl
  have h3 : ∀ w : World, (part 3 #[.int .i64 c, .int .i64 d] 1).run Try.prog w = .ok (.int .i64 d) w := fun w => hp _ _ _ _ rfl
  simp [hs, List.range', h0, h1, h2, h3, he]
  by_cases hx : a = c <;> by_cases hy : b = d <;> simp [hx, hy]
end Go.Proofs.Ytkemaaohmfdhbaa
