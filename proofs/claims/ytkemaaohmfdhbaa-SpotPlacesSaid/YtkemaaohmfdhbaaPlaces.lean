/- SpotPlaces: all answers are the document's. -/
import Derived.Test.YtkemaaohmfdhbaaRefAt
import Derived.Deep.RegionHeld3
namespace Go.Proofs.Ytkemaaohmfdhbaa
open Go.RowKit

open Classical in
/-- the answer of At -/
noncomputable def atN (l : List UInt8) (p : Int × Int) : Int := if h : ∃ k, isAt l p k then (Classical.choose h : Nat) else 0
open Classical in
noncomputable def atB (l : List UInt8) (p : Int × Int) : Bool := decide (∃ k, isAt l p k)

theorem atPost_fn {l : List UInt8} {p : Int × Int} {w : World} {e : Ending} {w' : World} (h : AtPost l p w e w') : e = .returned (.tuple #[.int .i64 (atN l p), .bool (atB l p)]) ∧ Below w.heap.size w w' := by
  obtain ⟨⟨k, rfl, hk⟩ | ⟨rfl, hno⟩, hb⟩ := h
  · have hex : ∃ k, isAt l p k := ⟨k, hk⟩
    refine ⟨?_, hb⟩
    rw [atN, dif_pos hex, atB, @decide_eq_true _ (Classical.propDecidable _) hex, atPost_same hk (Classical.choose_spec hex)]
  · have hex : ¬ ∃ k, isAt l p k := fun ⟨k, hk⟩ => hno k hk.1 hk.2.1
    refine ⟨?_, hb⟩
    rw [atN, dif_neg hex, atB, @decide_eq_false _ (Classical.propDecidable _) hex]

theorem places_big (s : ByteArray) (a b c d : Int) (w : World) (hs : 200 < s.size) (hm : s.size ≤ maxLen) :
    Calls Try.prog 3 #[.string s, .int .i64 a, .int .i64 b, .int .i64 c, .int .i64 d] w fun e w' => e = .returned (.bool true) ∧ Below w.heap.size w w' := by
  unfold maxLen at hm
  go_enter Try.func3, Try.ntmps3
  go_wp2_with fail
  refine (works_any _).mono ?_
  rintro e w1 ⟨rfl, b1⟩
  go_wp2
  go_ret
  exact ⟨rfl, b1⟩

set_option maxHeartbeats 4000000 in
theorem places_any (s : ByteArray) (at' ln col d : Int) (w : World) (hs : s.size ≤ 200) :
    Calls Try.prog 3 #[.string s, .int .i64 at', .int .i64 ln, .int .i64 col, .int .i64 d] w fun e w' => e = .returned (.bool true) ∧ Below w.heap.size w w' := by
  go_enter Try.func3, Try.ntmps3
  go_wp2_with fail
  refine (works_any _).mono ?_
  rintro e w1 ⟨rfl, b1⟩
  go_wp2_with fail
  refine (place_any s _ _ (by omega)).mono ?_
  rintro e w2 ⟨rfl, b2⟩
  go_wp2_with fail
  refine (refPlace_any s _ _ (by omega)).mono ?_
  rintro e w3 ⟨rfl, b3⟩
  go_wp2_with fail
  refine (at_any s _ _ _ (by omega)).mono ?_
  intro e w4 h4
  obtain ⟨rfl, b4⟩ := atPost_fn h4
  clear h4
  go_wp2_with fail
  refine (refAt_any s _ _ _ (by omega)).mono ?_
  intro e w5 h5
  obtain ⟨rfl, b5⟩ := atPost_fn h5
  clear h5
  go_wp2_with fail
  refine (refFail_any s _ _ _ (by omega)).mono ?_
  rintro e w6 ⟨rfl, b6⟩
  have hf : ∀ W : World, Calls Try.prog 15 #[.string s, .int .i64 at', .int .i64 d] W fun en w' => en = .returned (.agg #[.int .i64 (flp s.data.toList at' d).1, .int .i64 (flp s.data.toList at' d).2.1, .int .i64 (flp s.data.toList at' d).2.2]) ∧ Below W.heap.size W w' := fun W => fail_any s at' d W (by omega)
  have HFAIL := Lib.hid hf
  clear hf
  revert HFAIL b4
  generalize pl s.data.toList at' = P
  generalize flp s.data.toList at' d = T
  generalize atN s.data.toList (ln, col) = n1
  generalize atB s.data.toList (ln, col) = o1
  obtain ⟨P1, P2⟩ := P
  obtain ⟨T1, T2, T3⟩ := T
  simp only
  intro b4 HFAIL
  have hsz3 := b3.size
  have z4 := b4.size
  have z5 := b5.size
  have z6 := b6.size
  rw [World.size_alloc] at z4
  have k3 := (((((Blk.new w3 #[.int .i64 P1, .int .i64 P2] 26).below b4 (by simp)).below b5 (by omega)).below b6 (by omega))).alloc (.cells #[.int .i64 T1, .int .i64 T2, .int .i64 T3] 33)
  have k6 := Blk.new w6 #[.int .i64 T1, .int .i64 T2, .int .i64 T3] 33
  have c2 := b1.trans (b2.mono b1.size)
  have c3 := (c2.trans (b3.mono c2.size))
  have c4 := (c3.alloc c3.size (.cells #[.int .i64 P1, .int .i64 P2] 26)).trans (b4.mono (by have := c3.size; simp; omega))
  have c5 := c4.trans (b5.mono c4.size)
  have c6 := c5.trans (b6.mono c5.size)
  have c7 := c6.alloc c6.size (.cells #[.int .i64 T1, .int .i64 T2, .int .i64 T3] 33)
  have HC := Lib.hid c7
  have hz := Lib.hid c7.size
  have hl3 := Lib.hid k3.lt
  have hl6 := Lib.hid k6.lt
  have HK3 := Lib.hid k3
  have HK6 := Lib.hid k6
  clear b1 b2 b3 b4 b5 b6 c2 c3 c4 c5 c6 c7 k3 k6 hsz3 z4 z5 z6
  go_wp2
  revert HC hz hl3 hl6 HK3 HK6
  generalize w6.alloc (.cells #[.int .i64 T1, .int .i64 T2, .int .i64 T3] 33) = W7
  generalize w6.heap.size = B6
  generalize w3.heap.size = B3
  intro HC hz hl3 hl6 HK3 HK6
  have p0 : W7.cell? ⟨B3, 0, none⟩ = some (.int .i64 P1) := by rw [HK3.out.cell 0]; rfl
  have p1 : W7.cell? ⟨B3, 1, none⟩ = some (.int .i64 P2) := by rw [HK3.out.cell 1]; rfl
  have q0 : W7.cell? ⟨B6, 0, none⟩ = some (.int .i64 T1) := by rw [HK6.out.cell 0]; rfl
  have q1 : W7.cell? ⟨B6, 1, none⟩ = some (.int .i64 T2) := by rw [HK6.out.cell 1]; rfl
  have q2 : W7.cell? ⟨B6, 2, none⟩ = some (.int .i64 T3) := by rw [HK6.out.cell 2]; rfl
  have hsz := hz.out
  have hB0 := HC.out
  have hB1 : Below w.heap.size w W7.drew := HC.out.drew
  go_region_held3 (fun w' => w'.cell? ⟨B3, 0, none⟩ = some (.int .i64 P1) ∧ w'.cell? ⟨B3, 1, none⟩ = some (.int .i64 P2) ∧ w'.cell? ⟨B6, 0, none⟩ = some (.int .i64 T1) ∧ w'.cell? ⟨B6, 1, none⟩ = some (.int .i64 T2) ∧ w'.cell? ⟨B6, 2, none⟩ = some (.int .i64 T3) ∧ Below w.heap.size w w') (go_keep)
    (first | (go_at_call 15; refine (HFAIL.out _).mono ?_; rintro e w' ⟨rfl, hb⟩; have hbD := hb.mono (B' := W7.heap.size) (by simp); have s0 := (hbD.cell (p := ⟨B3, 0, none⟩) hl3.out).trans p0; have s1 := (hbD.cell (p := ⟨B3, 1, none⟩) hl3.out).trans p1; have r0 := (hbD.cell (p := ⟨B6, 0, none⟩) hl6.out).trans q0; have r1 := (hbD.cell (p := ⟨B6, 1, none⟩) hl6.out).trans q1; have r2 := (hbD.cell (p := ⟨B6, 2, none⟩) hl6.out).trans q2; have rB := hB1.trans (hb.mono (by simpa using hsz)); clear hbD hb))
  go_wp2
  go_ret
  exact ⟨rfl, rB⟩

theorem law_places (s : ByteArray) (a b c d : Int) (hs : s.size ≤ maxLen) (w : World) :
    Calls Try.prog 3 #[.string s, .int .i64 a, .int .i64 b, .int .i64 c, .int .i64 d] w fun e w' => e = .returned (.bool true) ∧ Below w.heap.size w w' := by
  by_cases h : s.size ≤ 200
  · exact places_any s a b c d w h
  · exact places_big s a b c d w (by omega) hs
end Go.Proofs.Ytkemaaohmfdhbaa
