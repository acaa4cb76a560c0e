/- None twice, as the document asks it. -/
import Derived.Test.YtadodccciejghaaSide
import Derived.Deep.QuietTactic
namespace Go.Proofs.Ytadodccciejghaa
open Go.RowKit
set_option maxRecDepth 100000

theorem Lst.front {W : World} {b : Option Addr} {c : Nat} {l : List ByteArray} (h : Lst stc W (.slice b l.length c) l) (k : Nat) (hk : k ≤ l.length) (c' : Nat) : Lst stc W (.slice b k c') (l.take k) := by
  obtain ⟨b', o, c2, e, hh⟩ := h
  cases e
  refine ⟨b, o, c', by rw [List.length_take, Nat.min_eq_left hk], fun hne => ?_⟩
  obtain ⟨g, e, hg, hc⟩ := hh (fun h0 => hne (by rw [h0]; simp))
  refine ⟨g, e, hg, fun j u hj => hc j u ?_⟩
  have : l.flatMap stc = (l.take k).flatMap stc ++ (l.drop k).flatMap stc := by rw [← List.flatMap_append, List.take_append_drop]
  rw [this, List.getElem?_append_left (List.getElem?_eq_some_iff.1 hj).1]
  exact hj

theorem tw_mono (l : List ByteArray) (k : Nat) (h : twB l k = true) : ∀ d, twB l (k + d) = true
  | 0 => h
  | d + 1 => by
    rw [← Nat.add_assoc, twB, tw_mono l k h d, Bool.true_or]
set_option maxHeartbeats 1000000 in
theorem ronce_any (l : List ByteArray) (v : Value) (w : World) (hl : l.length ≤ 100000) (ht : Lst stc w v l) (hcap : ∀ b n c, v = .slice b n c → n ≤ c) :
    Calls Try.prog 60 #[v] w fun e w' => e = .returned (.bool (!twB l l.length)) ∧ Below w.heap.size w w' := by
  have HT := Lib.hid ht
  obtain ⟨b, c, rfl⟩ := ht.slice
  have hc0 := hcap _ _ _ rfl
  clear ht hcap
  obtain ⟨q, hq⟩ : ∃ q, twB l l.length = q := ⟨_, rfl⟩
  rw [hq]
  have HQ := Lib.hid hq
  clear hq
  go_enter Try.func60, Try.ntmps60
  go_wp2
  go_loopw [3] (fun i wr => ∃ k : Nat, k ≤ l.length ∧ i = .int .i64 (k : Int) ∧ Below w.heap.size w wr ∧ Hid (twB l k = false)) (fun i _ => l.length - (intOf i).toNat)
  case atStart => exact ⟨0, by omega, rfl, Below.refl _ _, Lib.hid rfl⟩
  case round =>
    obtain ⟨k, hk, rfl, hB, htw⟩ := hrel
    have HB := Lib.hid hB
    by_cases hlt : k < l.length
    · have hlt' : (k : Int) < (l.length : Int) := by omega
      have hkc : (k : Int) ≤ (c : Int) := by omega
      have hFR := Lib.hid (HT.out.front k (by omega) c)
      obtain ⟨g, o, cc, x, hx, hv, hg, hc⟩ := HT.out.at_ stc_len hlt
      injection hv with h1 h2 h3
      subst h1 h3
      clear h2
      have d0 : wr.cell? ⟨g, o + k, none⟩ = some (.string x) := (hB.cell (p := ⟨g, o + k, none⟩) hg).trans (by have := hc 0 (by omega); simpa [stc] using this)
      have TW := Lib.hid (show twB l (k + 1) = (twB l k || usedB (l.take k) x) from by rw [twB, hx])
      obtain ⟨u, hu⟩ : ∃ u, usedB (l.take k) x = u := ⟨_, rfl⟩
      have HU := Lib.hid hu
      have hkl : (l.take k).length ≤ 100000 := by rw [List.length_take]; omega
      have HKL := Lib.hid hkl
      clear hc hx hB hu hkl
      have hcall : ∀ n, Calls Try.prog 33 #[.slice (some ⟨g, o, none⟩) k c, .string x] (wr.drewN n) fun e w' => e = .returned (.bool u) ∧ w' = wr.drewN n := fun n =>
        (has_any (l.take k) _ x _ HKL.out (hFR.out.below (below_drewN HB.out n))).mono fun _ _ h => ⟨by rw [← HU.out]; exact h.1, h.2.symm⟩
      have HCALL := Lib.hid hcall
      clear hcall
      go_wp2_with fail
      go_quiet (exact Calls.quiet_of_same (HCALL.out _))
      cases u
      · have HN := Lib.hid (show twB l (k + 1) = false from by rw [TW.out, htw.out, HU.out]; rfl)
        clear htw
        go_wp2
        refine ⟨⟨k + 1, by omega, by go_num, below_drewN HB.out _, HN⟩, ?_⟩
        simp [intOf]; omega
      · have hqt : q = true := by
          rw [← HQ.out]
          have h1 : twB l (k + 1) = true := by rw [TW.out, HU.out, Bool.or_true]
          have := tw_mono l (k + 1) h1 (l.length - (k + 1))
          rwa [show k + 1 + (l.length - (k + 1)) = l.length from by omega] at this
        subst hqt
        clear htw
        go_wp2
        go_ret
        exact ⟨rfl, below_drewN HB.out _⟩
    · have hge : (l.length : Int) ≤ (k : Int) := by omega
      have hkl : k = l.length := by omega
      have hqf : q = false := by rw [← HQ.out, ← hkl]; exact htw.out
      subst hqf
      clear hkl htw hB
      go_wp2
      go_ret
      exact ⟨rfl, HB.out⟩
end Go.Proofs.Ytadodccciejghaa
