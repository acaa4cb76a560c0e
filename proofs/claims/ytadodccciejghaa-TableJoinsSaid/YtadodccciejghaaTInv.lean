/- A table with its sides turned. -/
import Derived.Test.YtadodccciejghaaTOf
namespace Go.Proofs.Ytadodccciejghaa
open Go.RowKit
set_option maxRecDepth 100000
set_option maxHeartbeats 1000000

theorem tinv_any (a b : List ByteArray) (v u : Value) (w : World) (hv : Lst stc w v a) (hu : Lst stc w u b) (hz : ∀ x ∈ a, x.size ≤ maxLen) (hz' : ∀ x ∈ b, x.size ≤ maxLen) (hn : NilFine v) (hn' : NilFine u) :
    Calls Try.prog 27 #[.agg #[v, u]] w fun e w' => ∃ V, e = .returned V ∧ TabR w.heap.size w' V (okL (checkF b a) b) (okL (checkF b a) a) ∧ Below w.heap.size w w' := by
  have hB := ((Below.refl w.heap.size w).alloc (Nat.le_refl _) (.cells #[v, u] 24)).alloc (by simp) (.cells #[.slice none 0 0, .slice none 0 0] 24)
  have HOF := Lib.hid (tof_any b a u v _ (hu.below hB) (hv.below hB) hz' hz hn' hn)
  have hsz : ((w.alloc (.cells #[v, u] 24)).alloc (.cells #[.slice none 0 0, .slice none 0 0] 24)).heap.size = w.heap.size + 2 := by simp
  have k0 := (Blk.new w #[v, u] 24).alloc (.cells #[.slice none 0 0, .slice none 0 0] 24)
  have k1 := Blk.new (w.alloc (.cells #[v, u] 24)) #[.slice none 0 0, .slice none 0 0] 24
  rw [World.size_alloc] at k1
  have c0 := k0.cell 0
  have c1 := k0.cell 1
  have HB := Lib.hid hB
  have HSZ := Lib.hid hsz
  have HK1 := Lib.hid k1
  obtain ⟨x, y, rfl⟩ := hv.slice
  obtain ⟨x', y', rfl⟩ := hu.slice
  simp at c0 c1
  clear hv hu hz hz' hn hn' hB hsz k0 k1
  generalize checkF b a = q at *
  go_enter Try.func27, Try.ntmps27
  go_wp2_with fail
  refine HOF.out.mono ?_
  rintro e w1 ⟨V, rfl, ht, b1⟩
  rw [HSZ.out] at ht
  have hs1 : w.heap.size + 2 ≤ w1.heap.size := by have := b1.size; rw [HSZ.out] at this; exact this
  have B1 := Lib.hid (HB.out.trans (b1.mono HB.out.size))
  have K1 := HK1.out.below b1 (by rw [HSZ.out]; omega)
  obtain ⟨p, q', rfl, r1, r2⟩ := ht
  obtain ⟨pb, pc, rfl⟩ := row_slice r1
  obtain ⟨qb, qc, rfl⟩ := row_slice r2
  have hb2 : Below w1.heap.size w1 (w1.alloc (.cells #[.slice pb (okL q b).length pc, .slice qb (okL q a).length qc] 24)) := (Below.refl _ _).alloc (Nat.le_refl _) _
  have K2 := K1.below hb2 (by omega)
  have N2 := Blk.new w1 #[.slice pb (okL q b).length pc, .slice qb (okL q a).length qc] 24
  have d0 := N2.cell 0
  have d1 := N2.cell 1
  have f0 := K2.frozen 0
  have f1 := K2.frozen 1
  have e0 := K2.cell 0
  have e1 := K2.cell 1
  simp at e0 e1
  have K3 := Lib.hid ((K2.set 0 (.slice pb (okL q b).length pc)).set 1 (.slice qb (okL q a).length qc))
  have R3 := Lib.hid (show TabR w.heap.size (((w1.alloc (.cells #[.slice pb (okL q b).length pc, .slice qb (okL q a).length qc] 24)).setCell ⟨w.heap.size + 1, 0, none⟩ (.slice pb (okL q b).length pc)).setCell ⟨w.heap.size + 1, 1, none⟩ (.slice qb (okL q a).length qc)) _ (okL q b) (okL q a) from
    TabR.mono (((TabR.below ⟨_, _, rfl, r1, r2⟩ hb2).set (p := ⟨w.heap.size + 1, 0, none⟩) (by simp) _).set (p := ⟨w.heap.size + 1, 1, none⟩) (by simp) _) (by omega))
  have B3 := Lib.hid (((B1.out.trans (hb2.mono (by omega))).setCell (p := ⟨w.heap.size + 1, 0, none⟩) (by simp) (.slice pb (okL q b).length pc)).setCell (p := ⟨w.heap.size + 1, 1, none⟩) (by simp) (.slice qb (okL q a).length qc))
  clear r1 r2 b1 K1 hb2 K2 N2
  go_wp2
  refine bodyPost_ret (results_cell_row rfl _ _ (w.heap.size + 1) 24 #[.slice pb (okL q b).length pc, .slice qb (okL q a).length qc] (0, 0) _ rfl K3.out Try.underlying24 rfl (by kernel_rfl)) rfl ?_
  exact ⟨_, rfl, R3.out, B3.out⟩
end Go.Proofs.Ytadodccciejghaa
