/- The document's At. -/
import Derived.Test.YtkemaaohmfdhbaaOrder
import Derived.Deep.RegionWith
namespace Go.Proofs.Ytkemaaohmfdhbaa
open Go.RowKit

set_option maxHeartbeats 2000000 in
theorem refAt_any (s : ByteArray) (a b : Int) (w : World) (hs : s.size ≤ 4294967296) :
    Calls Try.prog 13 #[.string s, .agg #[.int .i64 a, .int .i64 b]] w (AtPost s.data.toList (a, b) w) := by
  go_enter Try.func13, Try.ntmps13
  go_wp2
  go_loopw [6] (fun i wr => ∃ k : Nat, k ≤ s.size + 1 ∧ i = .int .i64 k ∧ Blk wr w.heap.size #[.int .i64 a, .int .i64 b] 26 ∧ (∀ j, j < k → mv (1, 1) (s.data.toList.take j) ≠ (a, b)) ∧ Below w.heap.size w wr) (fun i _ => s.size + 1 - (intOf i).toNat)
  case atStart => exact ⟨0, Nat.zero_le _, rfl, Blk.new _ _ _, fun j hj => absurd hj (by omega), (Below.refl _ _).alloc (Nat.le_refl _) _⟩
  case round =>
    obtain ⟨k, hk, rfl, h0, hno, hB⟩ := hrel
    have HNO := Lib.hid hno
    clear hno
    have d0 := h0.cell 0
    have d1 := h0.cell 1
    simp at d0 d1
    have hz2 := h0.lt
    by_cases hlt : k ≤ s.size
    · by_cases heq : mv (1, 1) (s.data.toList.take k) = (a, b)
      · have HE := Lib.hid heq
        have e1 : (mv (1, 1) (s.data.toList.take k)).1 = a := by rw [heq]
        have e2 : (mv (1, 1) (s.data.toList.take k)).2 = b := by rw [heq]
        have E1 := Lib.hid e1
        have E2 := Lib.hid e2
        clear heq e1 e2
        go_wp2
        go_region_with (go_at_call 11; refine (refPlace_any s _ _ hs).mono ?_; rintro e w' ⟨rfl, hb⟩; rw [pl_nat, E1.out, E2.out]; have g1 := (Blk.drew h0).below hb (by simpa using hz2); have a0 := g1.cell 0; have a1 := g1.cell 1; simp at a0 a1)
        all_goals
          have HBB := Lib.hid ((hB.drew).trans (hb.mono (by simp; omega)))
          clear hb g1 h0
          go_wp2
          go_ret2
          exact ⟨.inl ⟨k, rfl, by simpa using hlt, HE.out, HNO.out⟩, HBB.out⟩
      · have HE := Lib.hid heq
        have hor : ((mv (1, 1) (s.data.toList.take k)).1 == a) = false ∨ ((mv (1, 1) (s.data.toList.take k)).1 = a ∧ ((mv (1, 1) (s.data.toList.take k)).2 == b) = false) := by
          by_cases h1 : (mv (1, 1) (s.data.toList.take k)).1 = a
          · refine .inr ⟨h1, ?_⟩
            by_cases h2 : (mv (1, 1) (s.data.toList.take k)).2 = b
            · exact absurd (Prod.ext h1 h2) heq
            · simpa using h2
          · exact .inl (by simpa using h1)
        clear heq
        rcases hor with e1 | ⟨e1', e2⟩
        · go_wp2
          go_region_with (go_at_call 11; refine (refPlace_any s _ _ hs).mono ?_; rintro e w' ⟨rfl, hb⟩; rw [pl_nat]; have g1 := (Blk.drew h0).below hb (by simpa using hz2); have a0 := g1.cell 0; have a1 := g1.cell 1; simp at a0 a1)
          all_goals
            have HBB := Lib.hid ((hB.drew).trans (hb.mono (by simp; omega)))
            have hg1 := Lib.hid g1
            clear hb g1 h0
            go_wp2
            go_roundw
            case rel =>
              refine ⟨k + 1, by omega, by go_num, hg1.out, ?_, HBB.out⟩
              intro j hj
              by_cases hjk : j < k
              · exact HNO.out j hjk
              · have : j = k := by omega
                subst this
                exact HE.out
            case measure => simp [intOf]; omega
        · have E1 := Lib.hid e1'
          clear e1'
          have e1 : (a == a) = true := by simp
          go_wp2
          go_region_with (go_at_call 11; refine (refPlace_any s _ _ hs).mono ?_; rintro e w' ⟨rfl, hb⟩; rw [pl_nat, E1.out]; have g1 := (Blk.drew h0).below hb (by simpa using hz2); have a0 := g1.cell 0; have a1 := g1.cell 1; simp at a0 a1)
          all_goals
            have HBB := Lib.hid ((hB.drew).trans (hb.mono (by simp; omega)))
            have hg1 := Lib.hid g1
            clear hb g1 h0
            go_wp2
            go_roundw
            case rel =>
              refine ⟨k + 1, by omega, by go_num, hg1.out, ?_, HBB.out⟩
              intro j hj
              by_cases hjk : j < k
              · exact HNO.out j hjk
              · have : j = k := by omega
                subst this
                exact HE.out
            case measure => simp [intOf]; omega
    · have hk' : k = s.size + 1 := by omega
      subst hk'
      go_wp2
      go_ret2
      exact ⟨.inr ⟨rfl, fun j hj => HNO.out j (by simp at hj; omega)⟩, hB⟩

theorem atPost_same {l : List UInt8} {p : Int × Int} {k k' : Nat} (h : isAt l p k) (h' : isAt l p k') : k = k' := by
  have h1 : ¬ k < k' := fun e => h'.2.2 k e h.2.1
  have h2 : ¬ k' < k := fun e => h.2.2 k' e h'.2.1
  omega
end Go.Proofs.Ytkemaaohmfdhbaa
