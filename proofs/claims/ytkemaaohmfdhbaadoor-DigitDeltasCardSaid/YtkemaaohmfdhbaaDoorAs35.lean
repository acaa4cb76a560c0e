/- errors.as: the chain is gone through. -/
import Derived.Test.YtkemaaohmfdhbaaDoorAs
namespace Go.Proofs.YtkemaaohmfdhbaaDoor
open Go.RowKit Go.Extern.Stop Go.Stop Go.Extern

theorem unwrap69 (n : Int) (w : World) : Calls Tryd.prog 69 #[.agg #[.int .i64 n]] w fun e w' => e = .returned (.iface 23 (.int .i64 n)) ∧ w' = w.alloc (.cells #[.int .i64 n] 47) := by
  go_enter Tryd.func69, Tryd.ntmps69
  go_wp2
  go_ret
  exact ⟨rfl, rfl⟩

theorem methodUnwrap (h : Value) (w : World) : (Go.method 225 47 h "Unwrap").run Tryd.prog w = .ok (69, h) w := by kernel_rfl

theorem noAs (v : Value) (xT : TypeId) (w : World) : (Instr.typeAssert (.iface 47 v) xT 78 true).run Tryd.prog w = .ok (.tuple #[.nilIface, .bool false]) w := run_typeAssert_lacksB Tryd.underlying78 (by kernel_rfl) (by kernel_rfl) v xT w
theorem hasUnwrap (v : Value) (xT : TypeId) (w : World) : (Instr.typeAssert (.iface 47 v) xT 81 true).run Tryd.prog w = .ok (.tuple #[.iface 47 v, .bool true]) w := run_typeAssert_hasB Tryd.underlying81 (by kernel_rfl) v xT w

set_option maxRecDepth 100000 in
set_option maxHeartbeats 4000000 in
theorem as35 (n : Int) (t a : Addr) (w : World) (ha : w.cell? a = some (.pointer (some t))) (ht0 : w.cell? t = some (.int .i64 0)) (hf0 : w.frozen? t = false) :
    Calls Tryd.prog 35 #[.iface 47 (.agg #[.int .i64 n]), .iface 50 (.pointer (some t)), .agg #[.pointer (some ⟨4, 50, none⟩), .pointer (some a), .int .u64 150], .iface 73 (.agg #[.pointer (some ⟨4, 23, none⟩)])] w
      fun e w' => e = .returned (.bool true) ∧ w' = (((w.alloc (.cells #[.pointer (some ⟨4, 50, none⟩), .pointer (some a), .int .u64 150] 57)).alloc (.cells #[.int .i64 n] 47)).alloc (.cells #[.int .i64 n] 23)).setCell t (.int .i64 n) := by
  have h32 := @run_callFunc_extern Tryd.prog 32 _ (fun args => ReflectliteValue.unpack (args.getD 0 (.tuple #[]))) Tryd.func32 (by kernel_rfl) (by kernel_rfl) (by kernel_rfl) (by kernel_rfl)
  have h40 := @run_callFunc_extern Tryd.prog 40 _ ReflectliteType.typeOf Tryd.func40 (by kernel_rfl) (by kernel_rfl) (by kernel_rfl) (by kernel_rfl)
  have h74 := @run_callFunc_extern Tryd.prog 74 _ (ReflectliteType.relation "AssignableTo" ReflectliteType.assignableTo) Tryd.func74 (by kernel_rfl) (by kernel_rfl) (by kernel_rfl) (by kernel_rfl)
  have h41 := @run_callFunc_extern Tryd.prog 41 _ (ReflectliteValue.method (ReflectliteValue.valueError "reflectlite.Value.Elem" 0) ReflectliteValue.elem) Tryd.func41 (by kernel_rfl) (by kernel_rfl) (by kernel_rfl) (by kernel_rfl)
  have h42 := @run_callFunc_extern Tryd.prog 42 _ ReflectliteValue.set Tryd.func42 (by kernel_rfl) (by kernel_rfl) (by kernel_rfl) (by kernel_rfl)
  have tA := typeOf47
  have tB := typeOf23
  have mA := methodAssignableTo
  have aA := assignable47
  have aB := assignable23
  have vB := valueOf23
  have mU := methodUnwrap
  have nA := noAs
  have hU := hasUnwrap
  go_enter Tryd.func35, Tryd.ntmps35
  go_wp2_with fail
  refine wp_loop_rounds 2 ?_
  rw [rounds_succ]
  go_wp2_with fail
  refine (unwrap69 n _).mono ?_
  rintro e w' ⟨rfl, rfl⟩
  go_wp2_with fail
  have hal : a.block < w.heap.size := by
    rcases Nat.lt_or_ge a.block w.heap.size with h | h
    · exact h
    · simp [World.cell?, Array.getElem?_eq_none h] at ha
  have htl : t.block < w.heap.size := by
    rcases Nat.lt_or_ge t.block w.heap.size with h | h
    · exact h
    · simp [World.cell?, Array.getElem?_eq_none h] at ht0
  have el := elemV50 a t ((w.alloc (.cells #[.pointer (some ⟨4, 50, none⟩), .pointer (some a), .int .u64 150] 57)).alloc (.cells #[.int .i64 n] 47))
    (by rw [World.cell?_alloc_lt _ _ a (by simp; omega), World.cell?_alloc_lt _ _ a hal]; exact ha)
  have st := set23 t ⟨w.heap.size + 1 + 1, 0, none⟩ n (.int .i64 0) (((w.alloc (.cells #[.pointer (some ⟨4, 50, none⟩), .pointer (some a), .int .u64 150] 57)).alloc (.cells #[.int .i64 n] 47)).alloc (.cells #[.int .i64 n] 23))
    (by rw [World.cell?_alloc_at _ _ _ _ (by simp)]; rfl)
    (by rw [World.cell?_alloc_lt _ _ t (by simp; omega), World.cell?_alloc_lt _ _ t (by simp; omega), World.cell?_alloc_lt _ _ t htl]; exact ht0)
    (by rw [World.frozen?_alloc_old _ _ t (by simp; omega), World.frozen?_alloc_old _ _ t (by simp; omega), World.frozen?_alloc_old _ _ t (Nat.ne_of_lt htl)]; exact hf0)
  rw [rounds_succ]
  go_wp2_with fail
  go_ret
  exact ⟨rfl, rfl⟩
end Go.Proofs.YtkemaaohmfdhbaaDoor
