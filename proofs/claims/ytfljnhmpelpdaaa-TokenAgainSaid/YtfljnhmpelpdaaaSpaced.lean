/- Texts with a blank behind each; are tokens alike but for their places. -/
import Derived.Test.YtfljnhmpelpdaaaAgain3
import Derived.Test.YtfljnhmpelpdaaaTexts
namespace Go.Proofs.Ytfljnhmpelpdaaa
open Go.RowKit

theorem layL_take (l : List Tk) (k : Nat) (x : Tk) (h : l[k]? = some x) : layL (l.take (k + 1)) = layL (l.take k) ++ layT x := by
  unfold layL
  rw [List.take_add_one, h, List.flatMap_append]
  simp

set_option maxRecDepth 100000 in
set_option maxHeartbeats 1000000 in
theorem spaced_any (l : List Tk) (v : Value) (w : World) (hl : l.length ≤ 400) (hsz : ∀ x ∈ l, x.t.size ≤ 400) (ht : Toks w v l) :
    Calls Try.prog 18 #[v] w fun e w' => e = .returned (.string ⟨(layL l).toArray⟩) ∧ w = w' := by
  obtain ⟨b, o, c, rfl, hh⟩ := ht
  have HH := Lib.hid hh
  have HZ := Lib.hid hsz
  clear hh hsz
  go_enter Try.func18, Try.ntmps18
  go_wp2
  go_loop [3, 4] (fun r i => ∃ (k : Nat) (S : ByteArray), k ≤ l.length ∧ i = .int .i64 (k : Int) ∧ r = .string S ∧ S.size ≤ k * 403 ∧ Hid (S.data.toList = layL (l.take k))) (fun _ i => l.length - (intOf i).toNat)
  case atStart => exact ⟨0, ⟨#[]⟩, by omega, rfl, rfl, by decide, Lib.hid rfl⟩
  case round =>
    obtain ⟨k, S, hk, rfl, rfl, hS, hlay⟩ := hrel
    by_cases hlt : k < l.length
    · have hlt' : (k : Int) < (l.length : Int) := by omega
      obtain ⟨x, hx⟩ : ∃ x, l[k]? = some x := ⟨l[k], List.getElem?_eq_getElem hlt⟩
      obtain ⟨g, rfl, hg, hc⟩ := HH.out (fun e => by rw [e] at hlt; simp at hlt)
      obtain ⟨h0, h1, h2⟩ := cs_at l k x hx
      have c0 := hc _ _ h0
      have c1 := hc _ _ h1
      have c2 := hc _ _ h2
      rw [← Nat.add_assoc] at c1 c2
      have hxs := HZ.out x (List.mem_of_getElem? hx)
      have HTK := Lib.hid (layL_take l k x hx)
      have hb1 : S.size ≤ 161200 := by
        have := Nat.mul_le_mul_right 403 (show k ≤ 400 by omega)
        omega
      have hk1 : (k + 1) * 403 = k * 403 + 403 := by omega
      have HK1 := Lib.hid hk1
      obtain ⟨z, hz⟩ : ∃ z : Int, (x.k : Int) = z := ⟨_, rfl⟩
      have HZZ := Lib.hid hz
      rw [hz] at c0
      clear h0 h1 h2 hc hx hk1 hz
      by_cases e2 : z = 2
      · have b2 : (z == 2) = true := by rw [beq_iff_eq]; exact e2
        have b3 : (z == 3) = false := by rw [beq_eq_false_iff_ne]; omega
        have hk2 : x.k = 2 := by have := HZZ.out; omega
        have hlx : layT x = [92] ++ x.t.data.toList ++ [32] := by unfold layT; rw [hk2]; simp
        have HLX := Lib.hid hlx
        clear hlx e2 hk2
        go_wp2
        refine ⟨⟨k + 1, _, by omega, by go_num, rfl, by rw [HK1.out]; simp only [ByteArray.size_append]; have e1 : ByteArray.size ⟨#[92]⟩ = 1 := rfl; have e2 : ByteArray.size ⟨#[32]⟩ = 1 := rfl; have e3 : ByteArray.size ⟨#[10]⟩ = 1 := rfl; omega, Lib.hid ?_⟩, ?_⟩
        · rw [HTK.out, HLX.out, ← hlay.out]
          simp [ByteArray.data_append]
        · simp [intOf]; omega
      · by_cases e3 : z = 3
        · have b2 : (z == 2) = false := by rw [beq_eq_false_iff_ne]; omega
          have b3 : (z == 3) = true := by rw [beq_iff_eq]; exact e3
          have hk2 : x.k = 3 := by have := HZZ.out; omega
          have hlx : layT x = [10] ++ x.t.data.toList ++ [32] := by unfold layT; rw [hk2]; simp
          have HLX := Lib.hid hlx
          clear hlx e2 e3 hk2
          go_wp2
          refine ⟨⟨k + 1, _, by omega, by go_num, rfl, by rw [HK1.out]; simp only [ByteArray.size_append]; have e1 : ByteArray.size ⟨#[92]⟩ = 1 := rfl; have e2 : ByteArray.size ⟨#[32]⟩ = 1 := rfl; have e3 : ByteArray.size ⟨#[10]⟩ = 1 := rfl; omega, Lib.hid ?_⟩, ?_⟩
          · rw [HTK.out, HLX.out, ← hlay.out]
            simp [ByteArray.data_append]
          · simp [intOf]; omega
        · have b2 : (z == 2) = false := by rw [beq_eq_false_iff_ne]; omega
          have b3 : (z == 3) = false := by rw [beq_eq_false_iff_ne]; omega
          have hlx : layT x = x.t.data.toList ++ [32] := by
            unfold layT
            rw [if_neg (by have := HZZ.out; omega), if_neg (by have := HZZ.out; omega)]
            simp
          have HLX := Lib.hid hlx
          clear hlx e2 e3
          go_wp2
          refine ⟨⟨k + 1, _, by omega, by go_num, rfl, by rw [HK1.out]; simp only [ByteArray.size_append]; have e1 : ByteArray.size ⟨#[92]⟩ = 1 := rfl; have e2 : ByteArray.size ⟨#[32]⟩ = 1 := rfl; have e3 : ByteArray.size ⟨#[10]⟩ = 1 := rfl; omega, Lib.hid ?_⟩, ?_⟩
          · rw [HTK.out, HLX.out, ← hlay.out]
            simp [ByteArray.data_append]
          · simp [intOf]; omega
    · have hge : (l.length : Int) ≤ (k : Int) := by omega
      have hkl : k = l.length := by omega
      have hfin : S = ⟨(layL l).toArray⟩ := by
        apply ByteArray.ext
        apply Array.ext'
        rw [hlay.out, hkl, List.take_length]
      have HF := Lib.hid hfin
      clear hfin hkl
      go_wp2
      go_ret
      rw [HF.out]
      exact ⟨rfl, by first | rfl | trivial⟩

theorem alike_len : ∀ (l m : List Tk), alike l m → m.length = l.length
  | [], [], _ => rfl
  | x :: l, y :: m, h => by rw [List.length_cons, List.length_cons, alike_len l m h.2.2]
theorem alike_at : ∀ (l m : List Tk), alike l m → ∀ (k : Nat) (x : Tk), l[k]? = some x → ∃ y, m[k]? = some y ∧ y.k = x.k ∧ y.t = x.t
  | [], [], _, k, x, h => by simp at h
  | a :: l, b :: m, h, 0, x, hx => by
    simp only [List.getElem?_cons_zero, Option.some.injEq] at hx
    subst hx
    exact ⟨b, rfl, h.1.symm, h.2.1.symm⟩
  | a :: l, b :: m, h, k + 1, x, hx => alike_at l m h.2.2 k x (by simpa using hx)

set_option maxRecDepth 100000 in
set_option maxHeartbeats 1000000 in
theorem kinds_any (l m : List Tk) (v u : Value) (w : World) (hl : l.length ≤ 400) (hal : alike l m) (ht : Toks w v l) (hu : Toks w u m) :
    Calls Try.prog 19 #[v, u] w fun e w' => e = .returned (.bool true) ∧ Below w.heap.size w w' := by
  obtain ⟨b, o, c, rfl, hh⟩ := ht
  obtain ⟨b', o', c', rfl, hh'⟩ := hu
  have HH := Lib.hid hh
  have HH' := Lib.hid hh'
  have HA := Lib.hid hal
  have hlm := alike_len l m hal
  rw [hlm]
  have HLM := Lib.hid hlm
  clear hh hh' hal hlm
  go_enter Try.func19, Try.ntmps19
  go_wp2
  go_loopw [5] (fun i wr => ∃ k : Nat, k ≤ l.length ∧ i = .int .i64 (k : Int) ∧ Below w.heap.size w wr) (fun i _ => l.length - (intOf i).toNat)
  case atStart => exact ⟨0, by omega, rfl, Below.refl _ _⟩
  case round =>
    obtain ⟨k, hk, rfl, hB⟩ := hrel
    have HB := Lib.hid hB
    by_cases hlt : k < l.length
    · have hlt' : (k : Int) < (l.length : Int) := by omega
      have hml := HLM.out
      obtain ⟨x, hx⟩ : ∃ x, l[k]? = some x := ⟨l[k], List.getElem?_eq_getElem hlt⟩
      obtain ⟨y, hy, e1, e2⟩ := alike_at l m HA.out k x hx
      obtain ⟨g, rfl, hg, hc⟩ := HH.out (fun e => by rw [e] at hlt; simp at hlt)
      obtain ⟨g', rfl, hg', hc'⟩ := HH'.out (fun e => by rw [e] at hml; simp at hml; omega)
      obtain ⟨h0, h1, h2⟩ := cs_at l k x hx
      obtain ⟨h0', h1', h2'⟩ := cs_at m k y hy
      have c0 := (hB.cell (p := ⟨g, o + k * 3, none⟩) hg).trans (hc _ _ h0)
      have c1 := (hB.cell (p := ⟨g, o + (k * 3 + 1), none⟩) hg).trans (hc _ _ h1)
      have d0 := (hB.cell (p := ⟨g', o' + k * 3, none⟩) hg').trans (hc' _ _ h0')
      have d1 := (hB.cell (p := ⟨g', o' + (k * 3 + 1), none⟩) hg').trans (hc' _ _ h1')
      rw [← Nat.add_assoc] at c1 d1
      rw [e1] at d0
      rw [e2] at d1
      have hnn : ((x.k : Int) != (x.k : Int)) = false := by simp
      have hss : (x.t.toList != x.t.toList) = false := by simp
      have hse : (x.t.toList == x.t.toList) = true := by simp
      generalize (x.k : Int) = z at c0 d0 hnn
      clear h0 h1 h2 h0' h1' h2' hc hc' hml hB hx hy e1 e2
      go_wp2_with fail
      go_quiet (fail)
      go_wp2
      refine ⟨⟨k + 1, by omega, by go_num, below_drewN HB.out _⟩, ?_⟩
      simp [intOf]; omega
    · have hge : (l.length : Int) ≤ (k : Int) := by omega
      clear hB
      go_wp2
      go_ret
      exact ⟨rfl, HB.out⟩
end Go.Proofs.Ytfljnhmpelpdaaa
