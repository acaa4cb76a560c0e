/- Where a name goes, as the document has it. -/
import Derived.Test.YtadodccciejghaaRCheck
import Derived.Test.YtadodccciejghaaAcross
namespace Go.Proofs.Ytadodccciejghaa
open Go.RowKit
set_option maxRecDepth 100000

/-- where a name goes -/
def aheadF (a b : List ByteArray) (s : ByteArray) : ByteArray × Bool := if checkF a b = 0 then goF a b s else (⟨#[]⟩, false)
def resF : Option ByteArray → ByteArray × Bool
  | some y => (y, true)
  | none => (⟨#[]⟩, false)
theorem goF_res (a b : List ByteArray) (s : ByteArray) : goF a b s = resF (goL a b s) := by
  unfold goF resF
  cases goL a b s <;> rfl
theorem goL_drop (a b : List ByteArray) (s : ByteArray) (k : Nat) (x y : ByteArray) (hx : a[k]? = some x) (hy : b[k]? = some y) : goL (a.drop k) (b.drop k) s = if x = s then some y else goL (a.drop (k + 1)) (b.drop (k + 1)) s := by
  obtain ⟨h1, rfl⟩ := List.getElem?_eq_some_iff.1 hx
  obtain ⟨h2, rfl⟩ := List.getElem?_eq_some_iff.1 hy
  rw [List.drop_eq_getElem_cons h1, List.drop_eq_getElem_cons h2]
  rfl

set_option maxHeartbeats 1000000 in
theorem rahead_any (a b : List ByteArray) (v u : Value) (s : ByteArray) (w : World) (hv : Lst stc w v a) (hu : Lst stc w u b) (hz : ∀ x ∈ a, x.size ≤ 100000) (hz' : ∀ x ∈ b, x.size ≤ 100000) (hc : ∀ b n c, v = .slice b n c → n ≤ c) (hc' : ∀ b n c, u = .slice b n c → n ≤ c) :
    Calls Try.prog 20 #[.agg #[v, u], .string s] w fun e w' => e = .returned (.tuple #[.string (aheadF a b s).1, .bool (aheadF a b s).2]) ∧ Below w.heap.size w w' := by
  have HB := Lib.hid ((Below.refl w.heap.size w).alloc (Nat.le_refl _) (.cells #[v, u] 29))
  have HV := Lib.hid (hv.below HB.out)
  have HU := Lib.hid (hu.below HB.out)
  have HCK := Lib.hid (rcheck_any a b v u _ (hv.below HB.out) (hu.below HB.out) hz hz' hc hc')
  obtain ⟨va, vc, rfl⟩ := hv.slice
  obtain ⟨ua, uc, rfl⟩ := hu.slice
  have HK0 := Lib.hid (Blk.new w #[.slice va a.length vc, .slice ua b.length uc] 29)
  clear hv hu hz hz' hc hc'
  have hsz : (w.alloc (.cells #[.slice va a.length vc, .slice ua b.length uc] 29)).heap.size = w.heap.size + 1 := by simp
  have HSZ := Lib.hid hsz
  clear hsz
  by_cases h0 : checkF a b = 0
  · have hok := (check_ok a b).1 h0
    have HAB := Lib.hid hok.2.1
    have hal : a.length ≤ 200 := hok.1
    rw [show aheadF a b s = goF a b s from by unfold aheadF; rw [if_pos h0]]
    rw [h0] at HCK
    obtain ⟨q, hq⟩ : ∃ q, goL a b s = q := ⟨_, rfl⟩
    rw [goF_res, hq]
    have HQ := Lib.hid hq
    clear hok h0 hq
    obtain ⟨⟨r1, r2⟩, hr⟩ : ∃ r : ByteArray × Bool, resF q = r := ⟨_, rfl⟩
    rw [hr]
    have HR := Lib.hid hr
    clear hr
    go_enter Try.func20, Try.ntmps20
    go_wp2_with fail
    refine HCK.out.mono ?_
    rintro e w1 ⟨rfl, b1⟩
    have B1 := Lib.hid (HB.out.trans (b1.mono HB.out.size))
    have V1 := Lib.hid (HV.out.below b1)
    have U1 := Lib.hid (HU.out.below b1)
    have k0 := HK0.out.below b1 (by rw [HSZ.out]; omega)
    have c0 := k0.cell 0
    have c1 := k0.cell 1
    simp at c0 c1
    clear b1 k0
    go_wp2
    go_loop [6] (fun i => ∃ k : Nat, k ≤ a.length ∧ i = .int .i64 (k : Int) ∧ Hid (goL (a.drop k) (b.drop k) s = q)) (fun i => a.length - (intOf i).toNat)
    case atStart => exact ⟨0, by omega, rfl, Lib.hid (by rw [List.drop_zero, List.drop_zero]; exact HQ.out)⟩
    case round =>
      obtain ⟨k, hk, rfl, hrun⟩ := hrel
      by_cases hlt : k < a.length
      · have hlt' : (k : Int) < (a.length : Int) := by omega
        have hltb : k < b.length := by have := HAB.out; omega
        have hltb' : (k : Int) < (b.length : Int) := by omega
        obtain ⟨g, o, cc, x, hx, hv, hg, hcl⟩ := V1.out.at_ stc_len hlt
        injection hv with h1 h2 h3
        subst h1 h3
        clear h2
        obtain ⟨g', o', cc', y, hy, hu, hg', hcl'⟩ := U1.out.at_ stc_len hltb
        injection hu with h1 h2 h3
        subst h1 h3
        clear h2
        have d0 : w1.cell? ⟨g, o + k, none⟩ = some (.string x) := by have := hcl 0 (by omega); simpa [stc] using this
        have d1 : w1.cell? ⟨g', o' + k, none⟩ = some (.string y) := by have := hcl' 0 (by omega); simpa [stc] using this
        have HD := Lib.hid (goL_drop a b s k x y hx hy)
        clear hcl hcl' hx hy
        by_cases he : x = s
        · have hqv : q = some y := by rw [← hrun.out, HD.out, if_pos he]
          have htl : (x.toList == s.toList) = true := by rw [he]; exact tl_self s
          have hr2 : (r1, r2) = (y, true) := by rw [← HR.out, hqv]; rfl
          cases hr2
          clear hqv he hrun HD HQ HR
          go_wp2
          go_ret2
          exact ⟨rfl, B1.out⟩
        · have htl : (x.toList == s.toList) = false := tl_ne x s he
          have HN := Lib.hid (show goL (a.drop (k + 1)) (b.drop (k + 1)) s = q from by rw [← hrun.out, HD.out, if_neg he])
          clear he hrun HD
          go_wp2
          refine ⟨⟨k + 1, by omega, by go_num, HN⟩, ?_⟩
          simp [intOf]; omega
      · have hge : (a.length : Int) ≤ (k : Int) := by omega
        have hqv : q = none := by rw [← hrun.out, List.drop_of_length_le (show a.length ≤ k by omega)]; rfl
        have hr2 : (r1, r2) = (⟨#[]⟩, false) := by rw [← HR.out, hqv]; rfl
        cases hr2
        clear hqv hrun HQ HR
        go_wp2
        go_ret2
        exact ⟨rfl, B1.out⟩
  · rw [show aheadF a b s = (⟨#[]⟩, false) from by unfold aheadF; rw [if_neg h0]]
    obtain ⟨q, hq⟩ : ∃ q, checkF a b = q := ⟨_, rfl⟩
    rw [hq] at HCK h0
    have hne : (q != 0) = true := by rw [bne_iff_ne]; exact h0
    clear h0 hq
    go_enter Try.func20, Try.ntmps20
    go_wp2_with fail
    refine HCK.out.mono ?_
    rintro e w1 ⟨rfl, b1⟩
    have B1 := Lib.hid (HB.out.trans (b1.mono HB.out.size))
    clear b1
    go_wp2
    go_ret2
    exact ⟨rfl, B1.out⟩
end Go.Proofs.Ytadodccciejghaa
