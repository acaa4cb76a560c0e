/- Are latches alike. -/
import Derived.Test.YtfkmolbcgnkfdaaDoorSameG
import Derived.Laws.StructEq
import Derived.BigQuiet
import Derived.Deep.QuietTactic
namespace Go.Proofs.YtfkmolbcgnkfdaaDoor
open Go.RowKit
set_option maxRecDepth 100000

def laEq (x y : La) : Bool := (x.name.toList == y.name.toList) && ((x.next.toList == y.next.toList) && (x.init == y.init))
theorem laEq_self (x : La) : laEq x x = true := by simp [laEq]
theorem held58 : Tryd.prog.stoodInHeld 58 = false := by kernel_rfl
theorem under58 : Tryd.prog.underlying 58 = some (.struct (Tryd.prog.fieldsOf 58)) := by kernel_rfl
theorem fields58 : (Tryd.prog.fieldsOf 58).toList.map (fun f => (f.name, f.type, f.offset)) = [("Name", 9, 0), ("Next", 9, 1), ("Init", 3, 2)] := by kernel_rfl
theorem guard58 : Tryd.prog.eqGuardType Tryd.prog.depth 58 = false := by kernel_rfl
theorem neq58 (x y : La) (w : World) : (binOp .neq 58 (.agg #[.string x.name, .string x.next, .int .i64 x.init]) (.agg #[.string y.name, .string y.next, .int .i64 y.init])).run Tryd.prog w = .ok (.bool (!laEq x y)) w := by
  rw [run_neq_struct, show (10000 : Nat) = 9999 + 1 from rfl, run_equalIn_struct w 9999 58 _ _ under58 held58]
  have hf := fields58
  generalize (Tryd.prog.fieldsOf 58).toList = fs at hf
  obtain ⟨f1, f2, f3, rfl⟩ : ∃ f1 f2 f3, fs = [f1, f2, f3] := by
    have hl := congrArg List.length hf
    rw [List.length_map] at hl
    rcases fs with _ | ⟨f1, _ | ⟨f2, _ | ⟨f3, _ | ⟨f4, fs⟩⟩⟩⟩
    · cases hl
    · cases hl
    · cases hl
    · exact ⟨f1, f2, f3, rfl⟩
    · simp at hl
  · skip
    simp only [List.map_cons, List.map_nil, List.cons.injEq, Prod.mk.injEq, and_true] at hf
    obtain ⟨⟨n1, t1, o1⟩, ⟨n2, t2, o2⟩, ⟨n3, t3, o3⟩⟩ := hf
    have hA3 : ∀ w : World, (isAgg 3).run Tryd.prog w = .ok false w := fun w => by simp [isAgg, run_underlying Tryd.underlying3]
    have hA9 : ∀ w : World, (isAgg 9).run Tryd.prog w = .ok false w := fun w => by simp [isAgg, run_underlying Tryd.underlying9]
    have he3 : ∀ (a b : Int) (w : World), (Op.equalIn 9999 3 (.int .i64 a) (.int .i64 b)).run Tryd.prog w = .ok (a == b) w := fun a b w => run_equalIn_int w 9998 3 .i64 .i64 a b Tryd.underlying3
    have he9 : ∀ (a b : ByteArray) (w : World), (Op.equalIn 9999 9 (.string a) (.string b)).run Tryd.prog w = .ok (a.toList == b.toList) w := fun a b w => run_equalIn_string w 9998 9 a b Tryd.underlying9
    have hp3 : ∀ (vs : Array Value) (i : Nat) (v : Value) (w : World), vs[i]? = some v → (part 3 vs i).run Tryd.prog w = .ok v w := fun vs i v w h => by simp [part, hA3, h]
    have hp9 : ∀ (vs : Array Value) (i : Nat) (v : Value) (w : World), vs[i]? = some v → (part 9 vs i).run Tryd.prog w = .ok v w := fun vs i v w h => by simp [part, hA9, h]
    have p0 := fun (z : La) (w : World) => hp9 #[.string z.name, .string z.next, .int .i64 z.init] 0 _ w rfl
    have p1 := fun (z : La) (w : World) => hp9 #[.string z.name, .string z.next, .int .i64 z.init] 1 _ w rfl
    have p2 := fun (z : La) (w : World) => hp3 #[.string z.name, .string z.next, .int .i64 z.init] 2 _ w rfl
    simp only [Op.eqFields, n1, t1, o1, n2, t2, o2, n3, t3, o3]
    unfold laEq
    cases h1 : (x.name.toList == y.name.toList) <;> cases h2 : (x.next.toList == y.next.toList) <;> cases h3 : (x.init == y.init) <;>
      simp [Sem.run_bind, p0, p1, p2, he3, he9, h1, h2, h3, Result.andThen]

set_option maxRecDepth 100000 in
set_option maxHeartbeats 1000000 in
theorem equalLa_any (l m : List La) (v u : Value) (w : World) (hl : l.length ≤ 100000) (_ : m.length ≤ 100000) (ht : Lst lec w v l) (hu : Lst lec w u m) :
    Calls Tryd.prog 59 #[v, u] w fun e w' => e = .returned (.bool (eqL laEq l m)) ∧ Below w.heap.size w w' := by
  have HH := Lib.hid ht
  have HH' := Lib.hid hu
  obtain ⟨b, c, rfl⟩ := ht.slice
  obtain ⟨b', c', rfl⟩ := hu.slice
  clear ht hu
  by_cases hne : l.length ≠ m.length
  · have hr := eqL_len (q := laEq) l m hne
    have hneb : ((l.length : Int) == (m.length : Int)) = false := by rw [beq_eq_false_iff_ne]; omega
    rw [hr]
    clear hr hne
    go_enter Tryd.func59, Tryd.ntmps59
    go_wp2
    go_ret
    exact ⟨rfl, Below.refl _ _⟩
  · have hlm : m.length = l.length := by omega
    rw [hlm]
    have HLM := Lib.hid hlm
    clear hlm hne
    go_enter Tryd.func59, Tryd.ntmps59
    go_wp2
    go_loopw [13] (fun i wr => ∃ k : Nat, k ≤ l.length ∧ i = .int .i64 (k : Int) ∧ Below w.heap.size w wr ∧ Hid (∀ j x y, j < k → l[j]? = some x → m[j]? = some y → laEq x y = true)) (fun i _ => l.length - (intOf i).toNat)
    case atStart => exact ⟨0, by omega, rfl, Below.refl _ _, Lib.hid fun j x y h => absurd h (by omega)⟩
    case round =>
      obtain ⟨k, hk, rfl, hB, hall⟩ := hrel
      have HB := Lib.hid hB
      by_cases hlt : k < l.length
      · have hlt' : (k : Int) < (l.length : Int) := by omega
        obtain ⟨g, o, cc, x, hx, hv, hg, hc⟩ := HH.out.at_ lec_len hlt
        obtain ⟨g', o', cc', y, hy, hv', hg', hc'⟩ := HH'.out.at_ (k := k) lec_len (by rw [HLM.out]; exact hlt)
        injection hv with hb _ hcc
        subst hb hcc
        injection hv' with hb _ hcc
        subst hb hcc
        have c0 := (hB.cell (p := ⟨g, o + k * 3 + 0, none⟩) hg).trans (hc 0 (by omega))
        have d0 := (hB.cell (p := ⟨g', o' + k * 3 + 0, none⟩) hg').trans (hc' 0 (by omega))
        have c1 := (hB.cell (p := ⟨g, o + k * 3 + 1, none⟩) hg).trans (hc 1 (by omega))
        have d1 := (hB.cell (p := ⟨g', o' + k * 3 + 1, none⟩) hg').trans (hc' 1 (by omega))
        have c2 := (hB.cell (p := ⟨g, o + k * 3 + 2, none⟩) hg).trans (hc 2 (by omega))
        have d2 := (hB.cell (p := ⟨g', o' + k * 3 + 2, none⟩) hg').trans (hc' 2 (by omega))
        simp [lec] at c0 d0 c1 d1 c2 d2
        have HX1 := Lib.hid hx
        have HY1 := Lib.hid hy
        clear hc hc' hB hx hy
        cases hxy : laEq x y
        · have hr := eqL_no l m k x y HX1.out HY1.out hxy
          have HR := Lib.hid hr
          have hneq := neq58 x y; rw [hxy] at hneq; have hg := guard58
          clear hr hxy
          go_wp2_with fail
          go_quiet (fail)
          go_wp2
          go_ret
          rw [HR.out]
          exact ⟨rfl, below_drewN HB.out _⟩
        · have hn : ∀ j a b, j < k + 1 → l[j]? = some a → m[j]? = some b → laEq a b = true := by
            intro j a b hj h1 h2
            by_cases hjk : j < k
            · exact hall.out j a b hjk h1 h2
            · have : j = k := by omega
              subst this
              rw [HX1.out] at h1
              rw [HY1.out] at h2
              rw [← Option.some.inj h1, ← Option.some.inj h2]
              exact hxy
          have HN := Lib.hid hn
          have hneq := neq58 x y; rw [hxy] at hneq; have hg := guard58
          clear hn hxy
          go_wp2_with fail
          go_quiet (fail)
          go_wp2
          refine ⟨⟨k + 1, by omega, by go_num, below_drewN HB.out _, HN⟩, ?_⟩
          simp [intOf]; omega
      · have hge : (l.length : Int) ≤ (k : Int) := by omega
        have hr := eqL_all (q := laEq) l m HLM.out.symm (fun j x y h1 h2 => hall.out j x y (by have := (List.getElem?_eq_some_iff.1 h1).1; omega) h1 h2)
        have HR := Lib.hid hr
        clear hr hB
        go_wp2
        go_ret
        rw [HR.out]
        exact ⟨rfl, HB.out⟩
end Go.Proofs.YtfkmolbcgnkfdaaDoor
