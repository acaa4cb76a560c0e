import Derived.Test.YtpbfkpdfodmcaaaT1
import Derived.Test.YtpbfkpdfodmcaaaF2
namespace Go.Proofs.Ytpbfkpdfodmcaaa
open Go.RowKit
set_option maxRecDepth 100000
set_option linter.unusedSimpArgs false
variable (Hy : World → Prop)
attribute [local irreducible] runM runD cwp seqQ blkQ lpQ retQ
structure Sm (g : G) (begin : List Int) (k : Nat) : Prop where
  i0 : 0 ≤ g.ins
  i1 : g.ins ≤ 30
  an : g.ands.length ≤ 60
  nx : g.next.length ≤ 60
  bl : begin.length ≤ 60
  k6 : k ≤ 6
theorem sm_of {g : G} {begin : List Int} {k : Int} (hs : smallG g begin k = true) (hq : unCheck g begin k = 0) : Sm g begin k.toNat := by
  obtain ⟨h1, h2, h3, h4⟩ := of_decide_eq_true hs
  obtain ⟨f1, f2, f3, f4, f5⟩ := of_decide_eq_true h1
  obtain ⟨q1, q2, q3, q4, q5, q6⟩ := unCheck_ok hq
  obtain ⟨⟨g1, g2, g3, g4⟩, _⟩ := checkG_ok q1
  exact ⟨g1, by omega, by omega, by omega, by omega, by omega⟩
theorem sm_cls {g : G} {begin : List Int} {k : Nat} {u : Cn} (hs : Sm g begin k) (hU : UnF g begin k u) : u.cls.length ≤ 1081 := by
  have h := hU.cls
  have h2 : k * (3 * g.ands.length) ≤ 6 * 180 := Nat.mul_le_mul hs.k6 (by have := hs.an; omega)
  omega
theorem sm_vars {g : G} {begin : List Int} {k : Nat} {u : Cn} (hs : Sm g begin k) (hU : UnF g begin k u) : 1 ≤ u.vars ∧ u.vars ≤ 700 := by
  have h := hU.vars
  have h2 : (k : Int) * (g.ins + g.ands.length) ≤ 6 * 90 := Int.mul_le_mul (by have := hs.k6; omega) (by have := hs.an; have := hs.i1; omega) (by have := hs.i0; omega) (by decide)
  have h3 : 0 ≤ (k : Int) * (g.ins + g.ands.length) := Int.mul_nonneg (by omega) (by have := hs.i0; omega)
  have := eithN_le begin
  have := hs.bl
  omega
theorem sm_lim {g : G} {begin : List Int} {k : Nat} {u : Cn} (hs : Sm g begin k) (hU : UnF g begin k u) : Lim u.cls ∧ Lim u.rows := by
  have h1 := sm_cls hs hU
  have h2 := hU.rows
  have h3 := hs.k6
  refine ⟨⟨by omega, fun c hc => Nat.le_trans (hU.len c hc) (by decide)⟩, by omega, fun r hr => ?_⟩
  rw [(hU.row r hr).1, G.N]
  have := hs.i1
  have := hs.an
  have := hs.nx
  omega
theorem sm_chk {g : G} {begin : List Int} {k : Nat} {u : Cn} (hs : Sm g begin k) (hU : UnF g begin k u) : cnfCheck u.cls u.vars = 0 := by
  have h1 := sm_cls hs hU
  have h2 := sm_vars hs hU
  rw [cnfCheck, if_neg (by omega), if_neg]
  rw [Bool.not_eq_true, List.any_eq_false]
  intro c hc
  rw [Bool.not_eq_true, List.any_eq_false]
  intro x hx
  obtain ⟨a1, a2, a3⟩ := hU.ok c hc x hx
  unfold badL
  rw [decide_eq_false (by omega)]
  decide
end Go.Proofs.Ytpbfkpdfodmcaaa
