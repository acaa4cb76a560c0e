/- Where a name goes, and from where one comes. -/
import Derived.Test.YtadodccciejghaaTCheck
import Derived.Test.YtadodccciejghaaRAhead
namespace Go.Proofs.Ytadodccciejghaa
open Go.RowKit Go.Maps
attribute [local go_sem] Oper.semAt_some
set_option maxRecDepth 100000
set_option maxHeartbeats 2000000

theorem tahead_any (a b : List ByteArray) (v u : Value) (s : ByteArray) (w : World) (hv : Lst stc w v a) (hu : Lst stc w u b) (hz : ∀ x ∈ a, x.size ≤ maxLen) (hz' : ∀ x ∈ b, x.size ≤ maxLen) (hs : s.size ≤ maxLen) :
    Calls Try.prog 19 #[.agg #[v, u], .string s] w fun e w' => e = .returned (.tuple #[.string (aheadF a b s).1, .bool (aheadF a b s).2]) ∧ Below w.heap.size w w' := by
  have HB := Lib.hid ((Below.refl w.heap.size w).alloc (Nat.le_refl _) (.cells #[v, u] 24))
  have HV := Lib.hid (hv.below HB.out)
  have HU := Lib.hid (hu.below HB.out)
  have HCK := Lib.hid (tcheck_any a b v u _ (hv.below HB.out) (hu.below HB.out) hz hz')
  have HZ := Lib.hid hz
  obtain ⟨va, vc, rfl⟩ := hv.slice
  obtain ⟨ua, uc, rfl⟩ := hu.slice
  have HK0 := Lib.hid (Blk.new w #[.slice va a.length vc, .slice ua b.length uc] 24)
  clear hv hu hz hz'
  have hsz : (w.alloc (.cells #[.slice va a.length vc, .slice ua b.length uc] 24)).heap.size = w.heap.size + 1 := by simp
  have HSZ := Lib.hid hsz
  clear hsz
  by_cases h0 : checkF a b = 0
  · have hok := (check_ok a b).1 h0
    have hal : a.length ≤ 100000 := by have := hok.1; omega
    have HAB := Lib.hid hok.2.1
    have HON := Lib.hid hok.2.2.2.2.1
    rw [show aheadF a b s = goF a b s from by unfold aheadF; rw [if_pos h0]]
    rw [h0] at HCK
    clear hok h0
    have hmf : ∀ (fn : Fn) (first cap : Array Value) (w : World), (Instr.makeFunc fn first cap).run Try.prog w = .ok (.func fn first cap) w := fun _ _ _ _ => rfl
    go_enter Try.func19, Try.ntmps19
    go_wp2_with fail
    refine HCK.out.mono ?_
    rintro e w1 ⟨rfl, b1⟩
    have B1 := Lib.hid (HB.out.trans (b1.mono HB.out.size))
    have V1 := Lib.hid (HV.out.below b1)
    have U1 := Lib.hid (HU.out.below b1)
    have k0 := HK0.out.below b1 (by rw [HSZ.out]; omega)
    have hs1 : w.heap.size + 1 ≤ w1.heap.size := by have := b1.size; rw [HSZ.out] at this; exact this
    have c0 := k0.cell 0
    have c1 := k0.cell 1
    simp at c0 c1
    have K0 := Lib.hid k0
    clear b1 k0
    go_wp2_with fail
    have hd : Below w1.heap.size w1 w1.drew := (Below.refl _ _).drew
    have V2 := Lib.hid (V1.out.below hd)
    have U2 := Lib.hid (U1.out.below hd)
    clear hd
    go_region_with (first | (go_at_call 63; refine (side_any a _ _ hal HZ.out V2.out).mono ?_; rintro e w2 ⟨bm, rfl, _, _, hown, b2⟩; have c3 := b2.cell (p := ⟨w.heap.size, 1, none⟩) (by simp; omega); simp [c1] at c3) | (go_at_call 62; refine (across_any a b _ s bm _ _ HON.out HAB.out hs hown (U2.out.below b2)).mono ?_; rintro e w3 ⟨rfl, b3⟩))
    all_goals
      have B2 := B1.out.drew.trans (b2.mono B1.out.drew.size)
      have B3 := Lib.hid (B2.trans (b3.mono B2.size))
      clear b2 b3 B2 hown
      go_wp2
      go_ret2
      exact ⟨rfl, B3.out⟩
  · rw [show aheadF a b s = (⟨#[]⟩, false) from by unfold aheadF; rw [if_neg h0]]
    obtain ⟨q, hq⟩ : ∃ q, checkF a b = q := ⟨_, rfl⟩
    rw [hq] at HCK h0
    have hne : (q != 0) = true := by rw [bne_iff_ne]; exact h0
    clear h0 hq
    go_enter Try.func19, Try.ntmps19
    go_wp2_with fail
    refine HCK.out.mono ?_
    rintro e w1 ⟨rfl, b1⟩
    have B1 := Lib.hid (HB.out.trans (b1.mono HB.out.size))
    clear b1
    go_wp2
    go_ret2
    exact ⟨rfl, B1.out⟩

theorem tback_any (a b : List ByteArray) (v u : Value) (s : ByteArray) (w : World) (hv : Lst stc w v a) (hu : Lst stc w u b) (hz : ∀ x ∈ a, x.size ≤ maxLen) (hz' : ∀ x ∈ b, x.size ≤ maxLen) (hs : s.size ≤ maxLen) :
    Calls Try.prog 21 #[.agg #[v, u], .string s] w fun e w' => e = .returned (.tuple #[.string (aheadF b a s).1, .bool (aheadF b a s).2]) ∧ Below w.heap.size w w' := by
  have hB := (Below.refl w.heap.size w).alloc (Nat.le_refl _) (.cells #[v, u] 24)
  have HA := Lib.hid (tahead_any b a u v s _ (hu.below hB) (hv.below hB) hz' hz hs)
  have HB := Lib.hid hB
  obtain ⟨x, y, rfl⟩ := hv.slice
  obtain ⟨x', y', rfl⟩ := hu.slice
  clear hv hu hz hz' hB
  go_enter Try.func21, Try.ntmps21
  go_wp2_with fail
  refine HA.out.mono ?_
  rintro e w1 ⟨rfl, b1⟩
  have B1 := Lib.hid (HB.out.trans (b1.mono HB.out.size))
  clear b1
  go_wp2
  go_ret2
  exact ⟨rfl, B1.out⟩
end Go.Proofs.Ytadodccciejghaa
