/- At: the place of a line and a column. -/
import Derived.Test.YtkemaaohmfdhbaaEq2
import Derived.Deep.RegionWith
namespace Go.Proofs.Ytkemaaohmfdhbaa
open Go.RowKit

/-- the first place with that line and column, if there is one -/
def isAt (l : List UInt8) (p : Int × Int) (k : Nat) : Prop := k ≤ l.length ∧ mv (1, 1) (l.take k) = p ∧ ∀ j, j < k → mv (1, 1) (l.take j) ≠ p
def noAt (l : List UInt8) (p : Int × Int) : Prop := ∀ j, j ≤ l.length → mv (1, 1) (l.take j) ≠ p

def AtPost (l : List UInt8) (p : Int × Int) (w : World) (e : Ending) (w' : World) : Prop :=
  ((∃ k : Nat, e = .returned (.tuple #[.int .i64 k, .bool true]) ∧ isAt l p k) ∨ (e = .returned (.tuple #[.int .i64 0, .bool false]) ∧ noAt l p)) ∧ Below w.heap.size w w'

set_option maxHeartbeats 1000000 in
theorem at_any (s : ByteArray) (a b : Int) (w : World) (hs : s.size ≤ 4294967296) :
    Calls Try.prog 12 #[.string s, .int .i64 a, .int .i64 b] w (AtPost s.data.toList (a, b) w) := by
  go_enter Try.func12, Try.ntmps12
  go_wp2
  go_loopw [17] (fun i wr => ∃ k : Nat, k ≤ s.size ∧ i = .int .i64 k ∧ Blk wr w.heap.size #[.int .i64 a, .int .i64 b] 47 ∧ Blk wr (w.heap.size + 1) #[.int .i64 (mv (1, 1) (s.data.toList.take k)).1, .int .i64 (mv (1, 1) (s.data.toList.take k)).2] 47 ∧ (∀ j, j < k → mv (1, 1) (s.data.toList.take j) ≠ (a, b)) ∧ Below w.heap.size w wr) (fun i _ => s.size - (intOf i).toNat)
  case atStart =>
    refine ⟨0, Nat.zero_le _, rfl, (Blk.new _ _ _).alloc _, ?_, fun j hj => absurd hj (by omega), ((Below.refl _ _).alloc (Nat.le_refl _) _).alloc (by simp) _⟩
    have := Blk.new (w.alloc (.cells #[.int .i64 a, .int .i64 b] 47)) #[.int .i64 1, .int .i64 1] 47
    rw [World.size_alloc] at this
    exact this
  case round =>
    obtain ⟨k, hk, rfl, h0, h1, hno, hB⟩ := hrel
    have HNO := Lib.hid hno
    clear hno
    have c0 := h1.cell 0
    have c1 := h1.cell 1
    have f0 := h1.frozen 0
    have f1 := h1.frozen 1
    have d0 := h0.cell 0
    have d1 := h0.cell 1
    have e0 := h0.frozen 0
    have e1 := h0.frozen 1
    simp at c0 c1 d0 d1
    have hbd := mv1_bd (s.data.toList.take k) (by rw [List.length_take]; simp; omega)
    have hz1 := hB.size
    have hz2 := h1.lt
    have hq := eql2 (mv (1, 1) (s.data.toList.take k)).1 (mv (1, 1) (s.data.toList.take k)).2 a b wr
    by_cases heq : mv (1, 1) (s.data.toList.take k) = (a, b)
    · rw [show decide (((mv (1, 1) (s.data.toList.take k)).1, (mv (1, 1) (s.data.toList.take k)).2) = (a, b)) = true from decide_eq_true heq] at hq
      have HE := Lib.hid heq
      clear heq
      by_cases hlt : k < s.size
      · go_wp2
        go_ret2
        exact ⟨.inl ⟨k, rfl, by simp; omega, HE.out, HNO.out⟩, hB⟩
      · have hk' : k = s.size := by omega
        subst hk'
        go_wp2
        go_ret2
        exact ⟨.inl ⟨s.size, rfl, by simp, HE.out, HNO.out⟩, hB⟩
    · rw [show decide (((mv (1, 1) (s.data.toList.take k)).1, (mv (1, 1) (s.data.toList.take k)).2) = (a, b)) = false from decide_eq_false heq] at hq
      have HE := Lib.hid heq
      clear heq
      by_cases hlt : k < s.size
      · have hts := Lib.hid (take_snoc s k hlt)
        have hst : (stp (mv (1, 1) (s.data.toList.take k)) s[k]) = mv (1, 1) (s.data.toList.take (k + 1)) := by rw [hts.out, mv_snoc]
        have HST := Lib.hid hst
        clear hst
        go_wp2
        go_region_with (go_at_call 21; refine (behind_any (mv (1, 1) (s.data.toList.take k)) s[k] _ (by omega) (by omega) (by omega) (by omega)).mono ?_; rintro e w' ⟨rfl, hb⟩; have g1 := (Blk.drew h1).below hb (by simpa using hz2); have a0 := g1.cell 0; have a1 := g1.cell 1; have b0 := g1.frozen 0; have b1 := g1.frozen 1; simp at a0 a1)
        all_goals
          have hg1 := Lib.hid g1
          have hg0 := Lib.hid ((Blk.drew h0).below hb (by simp; omega))
          have hBB := Lib.hid ((hB.drew).trans (hb.mono (by simp; omega)))
          clear g1 hb h0 h1
          go_wp2
          go_roundw
          case rel =>
            refine ⟨k + 1, by omega, by go_num, (hg0.out.other (by omega) _ _).other (by omega) _ _, ?_, ?_, (hBB.out.setCell (by simp) _).setCell (by simp) _⟩
            · have := (hg1.out.set 0 (.int .i64 (stp (mv (1, 1) (s.data.toList.take k)) s[k]).1)).set 1 (.int .i64 (stp (mv (1, 1) (s.data.toList.take k)) s[k]).2)
              rw [← HST.out]
              exact this
            · intro j hj
              by_cases hjk : j < k
              · exact HNO.out j hjk
              · have : j = k := by omega
                subst this
                exact HE.out
          case measure => simp [intOf]; omega
      · have hk' : k = s.size := by omega
        subst hk'
        go_wp2
        go_ret2
        refine ⟨.inr ⟨rfl, fun j hj => ?_⟩, hB⟩
        by_cases hjj : j < s.size
        · exact HNO.out j hjj
        · have : j = s.size := by simp at hj; omega
          subst this
          exact HE.out
end Go.Proofs.Ytkemaaohmfdhbaa
