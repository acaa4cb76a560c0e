/- A table with its sides turned, as the document has it. -/
import Derived.Test.YtadodccciejghaaRCheck
import Derived.Laws.Rows
namespace Go.Proofs.Ytadodccciejghaa
open Go.RowKit
set_option maxRecDepth 100000
set_option maxHeartbeats 1000000

theorem rinv_any (a b : List ByteArray) (v u : Value) (w : World) (hv : Lst stc w v a) (hu : Lst stc w u b) (hz : ∀ x ∈ a, x.size ≤ 100000) (hz' : ∀ x ∈ b, x.size ≤ 100000) (hc : ∀ b n c, v = .slice b n c → n ≤ c) (hc' : ∀ b n c, u = .slice b n c → n ≤ c) :
    Calls Try.prog 22 #[.agg #[v, u]] w fun e w' => e = .returned (if checkF a b = 0 then .agg #[u, v] else .agg #[.slice none 0 0, .slice none 0 0]) ∧ Below w.heap.size w w' := by
  have HB := Lib.hid (((Below.refl w.heap.size w).alloc (Nat.le_refl _) (.cells #[v, u] 29)).alloc (by simp) (.cells #[.slice none 0 0, .slice none 0 0] 29))
  have HCK := Lib.hid (rcheck_any a b v u _ (hv.below HB.out) (hu.below HB.out) hz hz' hc hc')
  obtain ⟨x, y, rfl⟩ := hv.slice
  obtain ⟨x', y', rfl⟩ := hu.slice
  clear hv hu hz hz' hc hc'
  have K0 := (Blk.new w #[.slice x a.length y, .slice x' b.length y'] 29).alloc (.cells #[.slice none 0 0, .slice none 0 0] 29)
  have K1 := Blk.new (w.alloc (.cells #[.slice x a.length y, .slice x' b.length y'] 29)) #[.slice none 0 0, .slice none 0 0] 29
  rw [World.size_alloc] at K1
  obtain ⟨q, hq⟩ : ∃ q, checkF a b = q := ⟨_, rfl⟩
  rw [hq] at HCK ⊢
  clear hq
  have HK0 := Lib.hid K0
  have HK1 := Lib.hid K1
  have hsz : ((w.alloc (.cells #[.slice x a.length y, .slice x' b.length y'] 29)).alloc (.cells #[.slice none 0 0, .slice none 0 0] 29)).heap.size = w.heap.size + 2 := by simp
  have HSZ := Lib.hid hsz
  clear K0 K1 hsz
  by_cases h0 : q = 0
  · subst h0
    rw [if_pos rfl]
    go_enter Try.func22, Try.ntmps22
    go_wp2_with fail
    refine HCK.out.mono ?_
    rintro e w1 ⟨rfl, b1⟩
    have k0 := HK0.out.below b1 (by rw [HSZ.out]; omega)
    have k1 := HK1.out.below b1 (by rw [HSZ.out]; omega)
    have B1 := Lib.hid (HB.out.trans (b1.mono HB.out.size))
    have c0 := k0.cell 0
    have c1 := k0.cell 1
    have d0 := k1.cell 0
    have d1 := k1.cell 1
    have f0 := k1.frozen 0
    have f1 := k1.frozen 1
    simp at c0 c1 d0 d1
    have H2 := Lib.hid ((k1.set 0 (.slice x' b.length y')).set 1 (.slice x a.length y))
    have B2 := Lib.hid ((B1.out.setCell (p := ⟨w.heap.size + 1, 0, none⟩) (by simp) (.slice x' b.length y')).setCell (p := ⟨w.heap.size + 1, 1, none⟩) (by simp) (.slice x a.length y))
    clear b1 k0 k1
    go_wp2
    refine bodyPost_ret (results_cell_row rfl _ _ (w.heap.size + 1) 29 #[.slice x' b.length y', .slice x a.length y] (0, 0) _ rfl H2.out Try.underlying29 rfl (by kernel_rfl)) rfl ?_
    exact ⟨rfl, B2.out⟩
  · rw [if_neg h0]
    have hne : (q != 0) = true := by rw [bne_iff_ne]; exact h0
    clear h0
    go_enter Try.func22, Try.ntmps22
    go_wp2_with fail
    refine HCK.out.mono ?_
    rintro e w1 ⟨rfl, b1⟩
    have k1 := HK1.out.below b1 (by rw [HSZ.out]; omega)
    have B1 := Lib.hid (HB.out.trans (b1.mono HB.out.size))
    have d0 := k1.cell 0
    have d1 := k1.cell 1
    have f0 := k1.frozen 0
    have f1 := k1.frozen 1
    simp at d0 d1
    have H2 := Lib.hid ((k1.set 0 (.slice none 0 0)).set 1 (.slice none 0 0))
    have B2 := Lib.hid ((B1.out.setCell (p := ⟨w.heap.size + 1, 0, none⟩) (by simp) (.slice none 0 0)).setCell (p := ⟨w.heap.size + 1, 1, none⟩) (by simp) (.slice none 0 0))
    clear b1 k1
    go_wp2
    refine bodyPost_ret (results_cell_row rfl _ _ (w.heap.size + 1) 29 #[.slice none 0 0, .slice none 0 0] (0, 0) _ rfl H2.out Try.underlying29 rfl (by kernel_rfl)) rfl ?_
    exact ⟨rfl, B2.out⟩
end Go.Proofs.Ytadodccciejghaa
