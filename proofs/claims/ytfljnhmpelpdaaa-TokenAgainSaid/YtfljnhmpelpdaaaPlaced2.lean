/- TokenPlaces' placed: does each stand at its place. -/
import Derived.Test.YtfljnhmpelpdaaaPlaced
import Derived.BigQuiet
namespace Go.Proofs.Ytfljnhmpelpdaaa
open Go.RowKit

set_option maxRecDepth 100000 in
set_option maxHeartbeats 2000000 in
theorem placed_any (s : ByteArray) (l : List Tk) (v : Value) (w : World) (hs : s.size ≤ 300) (hl : l.length ≤ 100000) (ht : Toks w v l) (hp : PlS s l 0 s.size) :
    Calls Try.prog 20 #[.string s, v] w fun e w' => e = .returned (.bool true) ∧ Below w.heap.size w w' := by
  obtain ⟨b, o, c, rfl, hh⟩ := ht
  have HH := Lib.hid hh
  have HP := Lib.hid hp
  clear hh hp
  go_enter Try.func20, Try.ntmps20
  go_wp2
  go_loopw [5, 6] (fun la i wr => ∃ k e : Nat, k ≤ l.length ∧ i = .int .i64 (k : Int) ∧ la = .int .i64 (e : Int) ∧ e ≤ 300 ∧ Hid (PlS s (l.drop k) e s.size) ∧ Below w.heap.size w wr) (fun _ i _ => l.length - (intOf i).toNat)
  case atStart => exact ⟨0, 0, by omega, rfl, rfl, by omega, Lib.hid (by simpa using HP.out), Below.refl _ _⟩
  case round =>
    obtain ⟨k, e, hk, rfl, rfl, he, hpl, hB⟩ := hrel
    have HB := Lib.hid hB
    by_cases hlt : k < l.length
    · have hlt' : (k : Int) < (l.length : Int) := by omega
      obtain ⟨x, hx⟩ : ∃ x, l[k]? = some x := ⟨l[k], List.getElem?_eq_getElem hlt⟩
      obtain ⟨g, rfl, hg, hc⟩ := HH.out (fun e => by rw [e] at hlt; simp at hlt)
      obtain ⟨h0, h1, h2⟩ := cs_at l k x hx
      have c0 := (hB.cell (p := ⟨g, o + k * 3, none⟩) hg).trans (hc _ _ h0)
      have c1 := (hB.cell (p := ⟨g, o + (k * 3 + 1), none⟩) hg).trans (hc _ _ h1)
      have c2 := (hB.cell (p := ⟨g, o + (k * 3 + 2), none⟩) hg).trans (hc _ _ h2)
      rw [← Nat.add_assoc] at c1 c2
      have hd : l.drop k = x :: l.drop (k + 1) := by
        rw [List.drop_eq_getElem_cons hlt]
        rw [List.getElem?_eq_getElem hlt] at hx
        rw [Option.some.inj hx]
      have hpl2 := hpl.out
      rw [hd] at hpl2
      obtain ⟨⟨s1, s2, s3, s4, s5⟩, hrest⟩ := hpl2
      have HREST := Lib.hid hrest
      have hsl := slice_eq s (beg x) (beg x + x.t.size) (by omega) s2
      rw [s3, show ((beg x + x.t.size : Nat) : Int) = (beg x : Int) + (x.t.size : Int) from by omega] at hsl
      have hbe : beg x = if x.k = 2 then x.p + 1 else x.p := rfl
      obtain ⟨xk, xt, xp⟩ := x
      simp only at c0 c1 c2 s1 s2 s4 s5 hsl hbe HREST
      have z1 : (e : Int) ≤ (xp : Int) := by omega
      clear h0 h1 h2 hc hB hx hd hpl s3 hrest
      by_cases hk2 : xk = 2
      · subst hk2
        rw [if_pos rfl] at hbe
        rw [hbe] at hsl HREST s2
        have z2 : (xp : Int) + 1 + (xt.size : Int) ≤ (s.size : Int) := by omega
        have hsl' := hsl
        rw [show ((xp + 1 : Nat) : Int) = (xp : Int) + 1 from by omega] at hsl'
        have hz : ((xt.size : Int) == 0) = false := by
          rw [beq_eq_false_iff_ne]
          intro h
          have := s4 (by omega)
          omega
        have HR2 := Lib.hid HREST.out
        have hd1 : decide ((s.size : Int) - ((xp : Int) + 1) < (xt.size : Int)) = false := decide_eq_false (by omega)
        clear hsl s4 hbe hk s2
        go_wp2_with fail
        go_quiet (fail)
        go_wp2
        refine ⟨⟨k + 1, xp + 1 + xt.size, by omega, by go_num, by go_num, by omega, HR2, below_drewN HB.out _⟩, ?_⟩
        simp [intOf]; omega
      · rw [if_neg hk2] at hbe
        rw [hbe] at hsl HREST s2
        have z2 : (xp : Int) + (xt.size : Int) ≤ (s.size : Int) := by omega
        have hkb : ((xk : Int) == 2) = false := by rw [beq_eq_false_iff_ne]; omega
        have hk3 : (xk : Int) ≤ 3 := by omega
        have hd1 : decide ((s.size : Int) - (xp : Int) < (xt.size : Int)) = false := decide_eq_false (by omega)
        have hd2 : decide ((xk : Int) < 0) = false := decide_eq_false (by omega)
        have hd3 : decide (3 < (xk : Int)) = false := decide_eq_false (by omega)
        clear hk2 hbe hk s2
        by_cases hz0 : xt.size = 0
        · have hk33 := s4 hz0
          subst hk33
          have hz : ((xt.size : Int) == 0) = true := by rw [beq_iff_eq]; omega
          clear s4 hz0
          go_wp2_with fail
          go_quiet (fail)
          go_wp2
          refine ⟨⟨k + 1, xp + xt.size, by omega, by go_num, by go_num, by omega, HREST, below_drewN HB.out _⟩, ?_⟩
          simp [intOf]; omega
        · have hz : ((xt.size : Int) == 0) = false := by rw [beq_eq_false_iff_ne]; omega
          clear s4 hz0
          go_wp2_with fail
          go_quiet (fail)
          go_wp2
          refine ⟨⟨k + 1, xp + xt.size, by omega, by go_num, by go_num, by omega, HREST, below_drewN HB.out _⟩, ?_⟩
          simp [intOf]; omega
    · have hge : (l.length : Int) ≤ (k : Int) := by omega
      clear hB
      go_wp2
      go_ret
      exact ⟨rfl, HB.out⟩
end Go.Proofs.Ytfljnhmpelpdaaa
