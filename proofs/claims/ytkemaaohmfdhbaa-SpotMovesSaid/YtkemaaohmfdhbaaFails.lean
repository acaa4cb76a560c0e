/- Fail, the document's Fail and At. -/
import Derived.Test.YtkemaaohmfdhbaaAt
namespace Go.Proofs.Ytkemaaohmfdhbaa
open Go.RowKit

/-- an error, and its place -/
def flp (l : List UInt8) (at' e : Int) : Int × Int × Int := if e = 0 then (0, 0, 0) else (e, (pl l at').1, (pl l at').2)

theorem fail_any (s : ByteArray) (at' e : Int) (w : World) (hs : s.size ≤ 4294967296) :
    Calls Try.prog 15 #[.string s, .int .i64 at', .int .i64 e] w fun en w' => en = .returned (.agg #[.int .i64 (flp s.data.toList at' e).1, .int .i64 (flp s.data.toList at' e).2.1, .int .i64 (flp s.data.toList at' e).2.2]) ∧ Below w.heap.size w w' := by
  by_cases h0 : e = 0
  · subst h0
    go_enter Try.func15, Try.ntmps15
    go_wp2
    refine bodyPost_ret (v := .agg #[.int .i64 0, .int .i64 0, .int .i64 0]) (by simp [results, Try.results15, go_sem]) rfl ⟨by simp [flp], ?_⟩
    exact (Below.refl _ _).alloc (Nat.le_refl _) _
  · have ht : (e == (0 : Int)) = false := by simpa using h0
    have H0 := Lib.hid h0
    clear h0
    have hb0 := Blk.new w #[.int .i64 0, .int .i64 0, .int .i64 0] 33
    go_enter Try.func15, Try.ntmps15
    go_wp2_with fail
    refine (place_any s at' _ hs).mono ?_
    rintro en w' ⟨rfl, hb⟩
    have h1 := hb0.below hb (by simp)
    have c0 := h1.cell 0
    have c1 := h1.cell 1
    have c2 := h1.cell 2
    have f0 := h1.frozen 0
    have f1 := h1.frozen 1
    have f2 := h1.frozen 2
    simp at c0 c1 c2
    go_wp2
    refine bodyPost_ret (v := .agg #[.int .i64 e, .int .i64 (pl s.data.toList at').1, .int .i64 (pl s.data.toList at').2]) (by simp [results, Try.results15, go_sem, c0, c1, c2]) rfl ⟨by rw [flp, if_neg H0.out], ?_⟩
    exact (((((Below.refl _ _).alloc (Nat.le_refl _) _).trans (hb.mono (by simp))).setCell (by simp) _).setCell (by simp) _).setCell (by simp) _

theorem refFail_any (s : ByteArray) (at' e : Int) (w : World) (hs : s.size ≤ 4294967296) :
    Calls Try.prog 14 #[.string s, .int .i64 at', .int .i64 e] w fun en w' => en = .returned (.agg #[.int .i64 (flp s.data.toList at' e).1, .int .i64 (flp s.data.toList at' e).2.1, .int .i64 (flp s.data.toList at' e).2.2]) ∧ Below w.heap.size w w' := by
  by_cases h0 : e = 0
  · subst h0
    go_enter Try.func14, Try.ntmps14
    go_wp2
    refine bodyPost_ret (v := .agg #[.int .i64 0, .int .i64 0, .int .i64 0]) (by simp [results, Try.results14, go_sem]) rfl ⟨by simp [flp], ?_⟩
    exact (Below.refl _ _).alloc (Nat.le_refl _) _
  · have ht : (e == (0 : Int)) = false := by simpa using h0
    have H0 := Lib.hid h0
    clear h0
    have hb0 := Blk.new w #[.int .i64 0, .int .i64 0, .int .i64 0] 33
    go_enter Try.func14, Try.ntmps14
    go_wp2_with fail
    refine (refPlace_any s at' _ hs).mono ?_
    rintro en w' ⟨rfl, hb⟩
    have h1 := hb0.below hb (by simp)
    have c0 := h1.cell 0
    have c1 := h1.cell 1
    have c2 := h1.cell 2
    have f0 := h1.frozen 0
    have f1 := h1.frozen 1
    have f2 := h1.frozen 2
    simp at c0 c1 c2
    have hz := h1.lt
    go_wp2
    have hF := (((h1.set 0 (.int .i64 e)).set 1 (.int .i64 (pl s.data.toList at').1)).set 2 (.int .i64 (pl s.data.toList at').2)).alloc (.cells #[.int .i64 (pl s.data.toList at').1, .int .i64 (pl s.data.toList at').2] 26)
    have g0 := hF.cell 0
    have g1 := hF.cell 1
    have g2 := hF.cell 2
    simp at g0 g1 g2
    refine bodyPost_ret (v := .agg #[.int .i64 e, .int .i64 (pl s.data.toList at').1, .int .i64 (pl s.data.toList at').2]) (by simp [results, Try.results14, go_sem, g0, g1, g2]) rfl ⟨by rw [flp, if_neg H0.out], ?_⟩
    refine Below.alloc (((((((Below.refl _ _).alloc (Nat.le_refl _) _).trans (hb.mono (by simp)))).setCell (by simp) _).setCell (by simp) _).setCell (by simp) _) ?_ _
    have := h1.lt
    simp only [World.setCell, Array.size_modify]
    omega
end Go.Proofs.Ytkemaaohmfdhbaa
