/- The document's examples: they hold. -/
import Derived.Test.YtfljnhmpelpdaaaExs
namespace Go.Proofs.Ytfljnhmpelpdaaa
open Go.RowKit

def t1 : List Tk := [⟨0, ⟨#[97]⟩, 0⟩, ⟨3, ⟨#[]⟩, 5⟩]
def t2 : List Tk := [⟨0, ⟨#[122]⟩, 0⟩, ⟨1, ⟨#[61]⟩, 2⟩, ⟨0, ⟨#[65, 78, 68]⟩, 4⟩, ⟨1, ⟨#[40]⟩, 7⟩, ⟨0, ⟨#[97]⟩, 8⟩, ⟨1, ⟨#[44]⟩, 9⟩, ⟨0, ⟨#[98]⟩, 11⟩, ⟨1, ⟨#[41]⟩, 12⟩]
def t3 : List Tk := [⟨0, ⟨#[97, 115, 115, 105, 103, 110]⟩, 0⟩, ⟨2, ⟨#[97, 46, 98]⟩, 7⟩, ⟨1, ⟨#[61]⟩, 12⟩, ⟨1, ⟨#[126]⟩, 14⟩, ⟨0, ⟨#[120]⟩, 15⟩, ⟨1, ⟨#[59]⟩, 16⟩]
theorem blif_ex (w : World) (hX : HX w) : Calls Try.prog 16 #[.string ⟨#[97, 32, 35, 32, 98]⟩] w fun e w' => ∃ v, e = .returned v ∧ w'.ownsRow w.heap.size 42 3 v 2 (cs t1) ∧ Below w.heap.size w w' := by
  have h := blif_any ⟨#[97, 32, 35, 32, 98]⟩ w hX (by decide)
  rw [ex1] at h
  exact h
theorem bench_ex (w : World) (hX : HX w) : Calls Try.prog 8 #[.string ⟨#[122, 32, 61, 32, 65, 78, 68, 40, 97, 44, 32, 98, 41, 32, 35, 32, 120]⟩] w fun e w' => ∃ v, e = .returned (.tuple #[v, .int .i64 0, .int .i64 0]) ∧ w'.ownsRow w.heap.size 42 3 v 8 (cs t2) ∧ Below w.heap.size w w' := by
  have h := bench_any ⟨#[122, 32, 61, 32, 65, 78, 68, 40, 97, 44, 32, 98, 41, 32, 35, 32, 120]⟩ w hX (by decide)
  rw [ex2] at h
  exact h
theorem verilog_ex (w : World) (hX : HX w) : Calls Try.prog 17 #[.string ⟨#[97, 115, 115, 105, 103, 110, 32, 92, 97, 46, 98, 32, 61, 32, 126, 120, 59, 32, 47, 47, 32, 121]⟩] w fun e w' => ∃ v, e = .returned (.tuple #[v, .int .i64 0, .int .i64 0]) ∧ w'.ownsRow w.heap.size 42 3 v 6 (cs t3) ∧ Below w.heap.size w w' := by
  have h := verilog_any ⟨#[97, 115, 115, 105, 103, 110, 32, 92, 97, 46, 98, 32, 61, 32, 126, 120, 59, 32, 47, 47, 32, 121]⟩ w hX (by decide)
  rw [ex3] at h
  exact h
theorem verilog_bad (w : World) (hX : HX w) : Calls Try.prog 17 #[.string ⟨#[97, 32, 63, 32, 98]⟩] w fun e w' => e = .returned (.tuple #[.slice none 0 0, .int .i64 2, .int .i64 2]) ∧ Below w.heap.size w w' := by
  have h := verilog_any ⟨#[97, 32, 63, 32, 98]⟩ w hX (by decide)
  rw [ex4] at h
  exact h
theorem same11 : sameL t1 t1 = true := by kernel_rfl
theorem same12 : sameL t1 t2 = false := by kernel_rfl

theorem toks_new (W : World) : Toks (W.alloc (.cells #[.int .i64 0, .string ⟨#[97]⟩, .int .i64 0, .int .i64 3, .string ⟨#[]⟩, .int .i64 5] 42)) (.slice (some ⟨W.heap.size, 0, none⟩) 2 2) t1 := by
  refine ⟨_, 0, 2, rfl, fun _ => ⟨W.heap.size, rfl, by simp, fun j u hj => ?_⟩⟩
  rw [Nat.zero_add, (Blk.new W _ _).cell j]
  rw [← hj, show cs t1 = [.int .i64 0, .string ⟨#[97]⟩, .int .i64 0, .int .i64 3, .string ⟨#[]⟩, .int .i64 5] from rfl]
  simp

set_option maxRecDepth 100000 in
set_option maxHeartbeats 1000000 in
theorem works_any (w : World) (hX : HX w) : Calls Try.prog 7 #[] w fun e w' => e = .returned (.bool true) ∧ Below w.heap.size w w' := by
  have X0 := Lib.hid hX
  clear hX
  go_enter Try.func7, Try.ntmps7
  go_wp2_with fail
  refine (blif_ex _ X0.out).mono ?_
  rintro e w1 ⟨v1, rfl, r1, b1⟩
  have B1 := Lib.hid b1
  have X1 := Lib.hid (X0.out.below b1)
  have T1 := Lib.hid (Toks.of_row (l := t1) r1)
  obtain ⟨g1, cp1, rfl⟩ := ownsRow_succ r1
  clear r1 b1
  go_wp2_with fail
  refine (bench_ex _ X1.out).mono ?_
  rintro e w2 ⟨v2, rfl, r2, b2⟩
  have B2 := Lib.hid (B1.out.trans (b2.mono B1.out.size))
  have X2 := Lib.hid (X1.out.below b2)
  have T1' := Lib.hid (T1.out.below b2)
  have T2 := Lib.hid (Toks.of_row (l := t2) r2)
  obtain ⟨g2, cp2, rfl⟩ := ownsRow_succ r2
  have hg2 := (r2.lt g2 rfl).2
  have q2 := r2.cells (g := g2) rfl 3 (.int .i64 1) rfl
  rw [Addr.add_lit] at q2
  have Q2 := Lib.hid q2
  clear r2 b2 T1 q2
  go_wp2_with fail
  refine (verilog_ex _ X2.out).mono ?_
  rintro e w3 ⟨v3, rfl, r3, b3⟩
  have B3 := Lib.hid (B2.out.trans (b3.mono B2.out.size))
  have X3 := Lib.hid (X2.out.below b3)
  have T1 := Lib.hid (T1'.out.below b3)
  have T2' := Lib.hid (T2.out.below b3)
  have T3 := Lib.hid (Toks.of_row (l := t3) r3)
  obtain ⟨g3, cp3, rfl⟩ := ownsRow_succ r3
  have hg3 := (r3.lt g3 rfl).2
  have q3 := r3.cells (g := g3) rfl 3 (.int .i64 2) rfl
  have q3' := r3.cells (g := g3) rfl 4 (.string ⟨#[97, 46, 98]⟩) rfl
  rw [Addr.add_lit] at q3 q3'
  have Q3 := Lib.hid q3
  have Q3' := Lib.hid q3'
  have Q2' := Lib.hid ((b3.cell (p := ⟨g2, 3, none⟩) hg2).trans Q2.out)
  have hg2' := Nat.lt_of_lt_of_le hg2 b3.size
  clear r3 b3 T1' T2 q3 q3' Q2 hg2
  go_wp2_with fail
  refine (verilog_bad _ X3.out).mono ?_
  rintro e w4 ⟨rfl, b4⟩
  have B4 := Lib.hid (B3.out.trans (b4.mono B3.out.size))
  have T1' := Lib.hid (T1.out.below b4)
  have T2 := Lib.hid (T2'.out.below b4)
  have T3' := Lib.hid (T3.out.below b4)
  have P2 := Lib.hid ((b4.cell (p := ⟨g2, 3, none⟩) hg2').trans Q2'.out)
  have P3 := Lib.hid ((b4.cell (p := ⟨g3, 3, none⟩) hg3).trans Q3.out)
  have P3' := Lib.hid ((b4.cell (p := ⟨g3, 4, none⟩) hg3).trans Q3'.out)
  have hg2 := Nat.lt_of_lt_of_le hg2' b4.size
  have hg3' := Nat.lt_of_lt_of_le hg3 b4.size
  clear b4 T1 T2' T3 Q2' Q3 Q3' hg2' hg3
  go_wp2_with fail
  refine (texts_any t3 _ _ (by decide) T3'.out).mono ?_
  rintro e w5 ⟨v5, rfl, r5, b5⟩
  have B5 := Lib.hid (B4.out.trans (b5.mono B4.out.size))
  have T1 := Lib.hid (T1'.out.below b5)
  have T2' := Lib.hid (T2.out.below b5)
  have R2 := Lib.hid ((b5.cell (p := ⟨g2, 3, none⟩) hg2).trans P2.out)
  have R3 := Lib.hid ((b5.cell (p := ⟨g3, 3, none⟩) hg3').trans P3.out)
  have R3' := Lib.hid ((b5.cell (p := ⟨g3, 4, none⟩) hg3').trans P3'.out)
  have k2 := Nat.lt_of_lt_of_le hg2 b5.size
  have k3 := Nat.lt_of_lt_of_le hg3' b5.size
  obtain ⟨g5, cp5, rfl⟩ := ownsRow_succ (k := 5) r5
  have k5 := (r5.lt g5 rfl).2
  have q5 := r5.cells (g := g5) rfl 3 (.string ⟨#[126]⟩) rfl
  rw [Addr.add_lit] at q5
  have R5 := Lib.hid q5
  clear r5 b5 q5 T1' T2 T3' P2 P3 P3' hg2 hg3'
  have hb6 : Below w5.heap.size w5 (w5.alloc (.cells #[.int .i64 0, .string ⟨#[97]⟩, .int .i64 0, .int .i64 3, .string ⟨#[]⟩, .int .i64 5] 42)) := (Below.refl _ _).alloc (Nat.le_refl _) _
  have HS := Lib.hid (same_any t1 t1 _ _ _ (by decide) (by decide) (T1.out.below hb6) (toks_new w5))
  rw [same11] at HS
  have H6 := Lib.hid hb6
  clear hb6
  go_wp2_with fail
  refine HS.out.mono ?_
  rintro e w7 ⟨rfl, b7⟩
  have hb := H6.out.trans (b7.mono H6.out.size)
  have c2 := (hb.cell (p := ⟨g2, 3, none⟩) k2).trans R2.out
  have c3 := (hb.cell (p := ⟨g3, 3, none⟩) k3).trans R3.out
  have c3' := (hb.cell (p := ⟨g3, 4, none⟩) k3).trans R3'.out
  have c5 := (hb.cell (p := ⟨g5, 3, none⟩) k5).trans R5.out
  have B7 := Lib.hid (B5.out.trans (hb.mono B5.out.size))
  have HS2 := Lib.hid (same_any t1 t2 _ _ w7 (by decide) (by decide) (T1.out.below hb) (T2'.out.below hb))
  rw [same12] at HS2
  clear hb b7
  go_wp2_with fail
  refine HS2.out.mono ?_
  rintro e w8 ⟨rfl, b8⟩
  have B8 := Lib.hid (B7.out.trans (b8.mono B7.out.size))
  clear b8
  go_wp2
  go_ret
  exact ⟨rfl, B8.out⟩
end Go.Proofs.Ytfljnhmpelpdaaa
