import Derived.Test.YtpbfkpdfodmcaaaEng20
import Derived.Test.YtpbfkpdfodmcaaaTys
import Derived.WideKeyPair
namespace Go.Proofs.Ytpbfkpdfodmcaaa
open Go.RowKit Go.WideMaps
set_option maxRecDepth 100000
theorem arr77 : ArrKey Try.prog 77 3 2 where
  hu := Try.underlying77
  plain := by kernel_rfl
  one := by kernel_rfl
  size := by kernel_rfl
theorem wf64 {n : Int} (h : inR .i64 n) : (Lit.int .i64 n).wf = true := by
  simp only [inR] at h
  show (decide (IntKind.i64.min ≤ n) && decide (n ≤ IntKind.i64.max)) = true
  rw [show IntKind.i64.min = -9223372036854775808 from by decide, show IntKind.i64.max = 9223372036854775807 from by decide, decide_eq_true h.1, decide_eq_true h.2]
  rfl
theorem mlaw84 : MLaw Try.prog tt 84 77 3 where
  und := Try.underlying84
  keyed := Go.Maps.Keyed.of_law arr77.law
  key := fun ky hk => by
    have hk' : ky.ok (.arr .i64 2) := hk
    cases ky with
    | i k n => exact hk'.elim
    | s x => exact hk'.elim
    | a k l =>
      obtain ⟨rfl, h2, h3⟩ := hk'
      match l, h2 with
      | [a, b], _ =>
        have ha := h3 a (by simp)
        have hb := h3 b (by simp)
        exact ⟨_, keyOf_pair arr77 Try.underlying3 ⟨_, rfl⟩ (wf64 ha) (wf64 hb)⟩
  zero := ⟨.int .i64 0, fun w => by
    obtain ⟨i, z, i1, _, _, i4, _⟩ := (tt_ok 3 _ rfl).info
    have e : Try.prog.info? 3 = some i := i1
    have hz : (Try.prog.info? 3).bind (·.zero) = some (.int .i64 0) := by kernel_rfl
    rw [e, Option.bind_some] at hz
    simp [zeroValue, run_info e, hz], fun w D o ι => .t (.i _ _)⟩
end Go.Proofs.Ytpbfkpdfodmcaaa
