/- What stands on the other side. -/
import Derived.Test.YtadodccciejghaaPlace
namespace Go.Proofs.Ytadodccciejghaa
open Go.RowKit Go.Maps
set_option maxRecDepth 100000

def goF (a b : List ByteArray) (s : ByteArray) : ByteArray × Bool := match goL a b s with | some y => (y, true) | none => (⟨#[]⟩, false)
/-- the function value that tells places -/
def plV (b : Nat) (tw : Bool) : Value := .func (.func 64) #[.agg #[.map (some b), .bool tw]] #[]

set_option maxHeartbeats 1000000 in
theorem across_any (a b : List ByteArray) (v : Value) (s : ByteArray) (k : Nat) (tw : Bool) (w : World) (hon : Once a) (hab : a.length = b.length) (hs : s.size ≤ maxLen) (hown : w.ownsMap Try.prog 9 (plainElem Try.prog 3) k a.length (plD a a.length)) (hv : Lst stc w v b) :
    Calls Try.prog 62 #[plV k tw, v, .string s] w fun e w' => e = .returned (.tuple #[.string (goF a b s).1, .bool (goF a b s).2]) ∧ Below w.heap.size w w' := by
  have HV := Lib.hid hv
  have HP := Lib.hid (place_any a k tw s w hs hown)
  have HG := Lib.hid (goL_none a b s hab)
  have HON := Lib.hid hon
  have HAB := Lib.hid hab
  obtain ⟨x, y, rfl⟩ := hv.slice
  obtain ⟨⟨r1, r2⟩, hr⟩ : ∃ r, goF a b s = r := ⟨_, rfl⟩
  rw [hr]
  have HR := Lib.hid hr
  clear hv hown hon hab hr
  unfold plV
  go_enter Try.func62, Try.ntmps62
  go_wp2_with fail
  refine HP.out.mono ?_
  rintro e w1 ⟨i, rfl, hi, b1⟩
  have B1 := Lib.hid b1
  have V1 := Lib.hid (HV.out.below b1)
  clear b1
  rcases hi with ⟨hn, rfl⟩ | ⟨n, hn, rfl⟩
  · have hg := HG.out.2 hn
    have hr2 : (r1, r2) = (⟨#[]⟩, false) := by rw [← HR.out]; unfold goF; rw [hg]
    cases hr2
    clear hg hn
    go_wp2
    go_ret2
    exact ⟨rfl, B1.out⟩
  · have hnl : n < a.length := (List.getElem?_eq_some_iff.1 hn).1
    have hnb : n < b.length := by have := HAB.out; omega
    have hnb' : (n : Int) < (b.length : Int) := by omega
    obtain ⟨g, o, cc, z, hz, hvv, hg, hc⟩ := V1.out.at_ stc_len hnb
    injection hvv with h1 h2 h3
    subst h1 h3
    clear h2
    have d0 : w1.cell? ⟨g, o + n, none⟩ = some (.string z) := by have := hc 0 (by omega); simpa [stc] using this
    have hgo := goL_of a b n s z HON.out hn hz
    have hr2 : (r1, r2) = (z, true) := by rw [← HR.out]; unfold goF; rw [hgo]
    cases hr2
    clear hgo hn hz hc
    go_wp2
    go_ret2
    exact ⟨rfl, B1.out⟩
end Go.Proofs.Ytadodccciejghaa
