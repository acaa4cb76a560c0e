/- Are two tables alike. -/
import Derived.Test.YtadodccciejghaaAlike
namespace Go.Proofs.Ytadodccciejghaa
open Go.RowKit
set_option maxRecDepth 100000

set_option maxHeartbeats 1000000 in
theorem same_any (a b a' b' : List ByteArray) (v u v' u' : Value) (w : World) (ha : a.length ≤ 100000) (hb : b.length ≤ 100000) (ha' : a'.length ≤ 100000) (hb' : b'.length ≤ 100000) (hv : Lst stc w v a) (hu : Lst stc w u b) (hv' : Lst stc w v' a') (hu' : Lst stc w u' b') :
    Calls Try.prog 25 #[.agg #[v, u], .agg #[v', u']] w fun e w' => e = .returned (.bool (eqL stEq a a' && eqL stEq b b')) ∧ Below w.heap.size w w' := by
  have HB := Lib.hid (((Below.refl w.heap.size w).alloc (Nat.le_refl _) (.cells #[v, u] 24)).alloc (by simp) (.cells #[v', u'] 24))
  have V1 := Lib.hid (hv.below HB.out)
  have U1 := Lib.hid (hu.below HB.out)
  have V1' := Lib.hid (hv'.below HB.out)
  have U1' := Lib.hid (hu'.below HB.out)
  have hsz : w.heap.size + 2 = ((w.alloc (.cells #[v, u] 24)).alloc (.cells #[v', u'] 24)).heap.size := by simp
  have HSZ := Lib.hid hsz
  obtain ⟨x1, y1, rfl⟩ := hv.slice
  obtain ⟨x2, y2, rfl⟩ := hu.slice
  obtain ⟨x3, y3, rfl⟩ := hv'.slice
  obtain ⟨x4, y4, rfl⟩ := hu'.slice
  obtain ⟨q, hq⟩ : ∃ q, eqL stEq a a' = q := ⟨_, rfl⟩
  obtain ⟨q', hq'⟩ : ∃ q, eqL stEq b b' = q := ⟨_, rfl⟩
  rw [hq, hq']
  have HQ := Lib.hid hq
  have HQ' := Lib.hid hq'
  clear hv hu hv' hu' hq hq' hsz
  cases q
  · go_enter Try.func25, Try.ntmps25
    go_wp2_with fail
    refine (equal_any a a' _ _ _ ha ha' V1.out V1'.out).mono ?_
    rw [HQ.out]
    rintro e w1 ⟨rfl, b1⟩
    have B1 := Lib.hid (HB.out.trans (b1.mono HB.out.size))
    clear b1
    go_wp2
    go_ret
    exact ⟨rfl, B1.out⟩
  · go_enter Try.func25, Try.ntmps25
    go_wp2_with fail
    refine (equal_any a a' _ _ _ ha ha' V1.out V1'.out).mono ?_
    rw [HQ.out]
    rintro e w1 ⟨rfl, b1⟩
    have B1 := Lib.hid (HB.out.trans (b1.mono HB.out.size))
    have U2 := Lib.hid (U1.out.below b1)
    have U2' := Lib.hid (U1'.out.below b1)
    have c1 := b1.cell (p := ⟨w.heap.size, 1, none⟩) (by have := HSZ.out; show w.heap.size < _; omega)
    have c2 := b1.cell (p := ⟨w.heap.size + 1, 1, none⟩) (by have := HSZ.out; show w.heap.size + 1 < _; omega)
    have k1 := ((Blk.new w #[.slice x1 a.length y1, .slice x2 b.length y2] 24).alloc (.cells #[.slice x3 a'.length y3, .slice x4 b'.length y4] 24)).cell 1
    have k2 := (Blk.new (w.alloc (.cells #[.slice x1 a.length y1, .slice x2 b.length y2] 24)) #[.slice x3 a'.length y3, .slice x4 b'.length y4] 24).cell 1
    rw [World.size_alloc] at k2
    have d1 := c1.trans k1
    have d2 := c2.trans k2
    simp at d1 d2
    clear b1 c1 c2 k1 k2
    go_wp2_with fail
    refine (equal_any b b' _ _ _ hb hb' U2.out U2'.out).mono ?_
    rw [HQ'.out]
    rintro e w2 ⟨rfl, b2⟩
    have B2 := Lib.hid (B1.out.trans (b2.mono B1.out.size))
    clear b2
    go_wp2
    go_ret
    exact ⟨rfl, B2.out⟩

set_option maxHeartbeats 1000000 in
theorem rsame_any (a b a' b' : List ByteArray) (v u v' u' : Value) (w : World) (ha : a.length ≤ 100000) (hb : b.length ≤ 100000) (ha' : a'.length ≤ 100000) (hb' : b'.length ≤ 100000) (hv : Lst stc w v a) (hu : Lst stc w u b) (hv' : Lst stc w v' a') (hu' : Lst stc w u' b') :
    Calls Try.prog 23 #[.agg #[v, u], .agg #[v', u']] w fun e w' => e = .returned (.bool (eqL stEq a a' && eqL stEq b b')) ∧ Below w.heap.size w w' := by
  have HB := Lib.hid (((Below.refl w.heap.size w).alloc (Nat.le_refl _) (.cells #[v, u] 29)).alloc (by simp) (.cells #[v', u'] 29))
  have V1 := Lib.hid (hv.below HB.out)
  have U1 := Lib.hid (hu.below HB.out)
  have V1' := Lib.hid (hv'.below HB.out)
  have U1' := Lib.hid (hu'.below HB.out)
  have hsz : w.heap.size + 2 = ((w.alloc (.cells #[v, u] 29)).alloc (.cells #[v', u'] 29)).heap.size := by simp
  have HSZ := Lib.hid hsz
  obtain ⟨x1, y1, rfl⟩ := hv.slice
  obtain ⟨x2, y2, rfl⟩ := hu.slice
  obtain ⟨x3, y3, rfl⟩ := hv'.slice
  obtain ⟨x4, y4, rfl⟩ := hu'.slice
  obtain ⟨q, hq⟩ : ∃ q, eqL stEq a a' = q := ⟨_, rfl⟩
  obtain ⟨q', hq'⟩ : ∃ q, eqL stEq b b' = q := ⟨_, rfl⟩
  rw [hq, hq']
  have HQ := Lib.hid hq
  have HQ' := Lib.hid hq'
  clear hv hu hv' hu' hq hq' hsz
  cases q
  · go_enter Try.func23, Try.ntmps23
    go_wp2_with fail
    refine (texts_any a a' _ _ _ ha ha' V1.out V1'.out).mono ?_
    rw [HQ.out]
    rintro e w1 ⟨rfl, b1⟩
    have B1 := Lib.hid (HB.out.trans (b1.mono HB.out.size))
    clear b1
    go_wp2
    go_ret
    exact ⟨rfl, B1.out⟩
  · go_enter Try.func23, Try.ntmps23
    go_wp2_with fail
    refine (texts_any a a' _ _ _ ha ha' V1.out V1'.out).mono ?_
    rw [HQ.out]
    rintro e w1 ⟨rfl, b1⟩
    have B1 := Lib.hid (HB.out.trans (b1.mono HB.out.size))
    have U2 := Lib.hid (U1.out.below b1)
    have U2' := Lib.hid (U1'.out.below b1)
    have c1 := b1.cell (p := ⟨w.heap.size, 1, none⟩) (by have := HSZ.out; show w.heap.size < _; omega)
    have c2 := b1.cell (p := ⟨w.heap.size + 1, 1, none⟩) (by have := HSZ.out; show w.heap.size + 1 < _; omega)
    have k1 := ((Blk.new w #[.slice x1 a.length y1, .slice x2 b.length y2] 29).alloc (.cells #[.slice x3 a'.length y3, .slice x4 b'.length y4] 29)).cell 1
    have k2 := (Blk.new (w.alloc (.cells #[.slice x1 a.length y1, .slice x2 b.length y2] 29)) #[.slice x3 a'.length y3, .slice x4 b'.length y4] 29).cell 1
    rw [World.size_alloc] at k2
    have d1 := c1.trans k1
    have d2 := c2.trans k2
    simp at d1 d2
    clear b1 c1 c2 k1 k2
    go_wp2_with fail
    refine (texts_any b b' _ _ _ hb hb' U2.out U2'.out).mono ?_
    rw [HQ'.out]
    rintro e w2 ⟨rfl, b2⟩
    have B2 := Lib.hid (B1.out.trans (b2.mono B1.out.size))
    clear b2
    go_wp2
    go_ret
    exact ⟨rfl, B2.out⟩
end Go.Proofs.Ytadodccciejghaa
