/- Texts of tokens; are two lists alike. -/
import Derived.Test.YtfljnhmpelpdaaaTops
namespace Go.Proofs.Ytfljnhmpelpdaaa
open Go.RowKit

/-- a slice whose cells are these tokens -/
def Toks (W : World) (v : Value) (l : List Tk) : Prop :=
  ∃ b o c, v = .slice b l.length c ∧ (l ≠ [] → ∃ g, b = some ⟨g, o, none⟩ ∧ g < W.heap.size ∧ ∀ j u, (cs l)[j]? = some u → W.cell? ⟨g, o + j, none⟩ = some u)
theorem Toks.of_row {W : World} {B : Nat} {v : Value} {l : List Tk} (h : W.ownsRow B 42 3 v l.length (cs l)) : Toks W v l := by
  have hl := h
  rcases h.2 with ⟨rfl, hn⟩ | ⟨g, cap, cur, rfl, _⟩
  · exact ⟨none, 0, 0, by rw [hn], fun hne => absurd (List.length_eq_zero_iff.1 hn) hne⟩
  · refine ⟨_, 0, cap, rfl, fun _ => ⟨g, rfl, (hl.lt g rfl).2, fun j u hj => ?_⟩⟩
    have := hl.cells (g := g) rfl j u hj
    rwa [Addr.add_lit] at this
theorem Toks.below {W W' : World} {v : Value} {l : List Tk} (h : Toks W v l) (hb : Below W.heap.size W W') : Toks W' v l := by
  obtain ⟨b, o, c, rfl, hh⟩ := h
  refine ⟨b, o, c, rfl, fun hne => ?_⟩
  obtain ⟨g, e, hg, hc⟩ := hh hne
  exact ⟨g, e, Nat.lt_of_lt_of_le hg hb.size, fun j u hj => (hb.cell (p := ⟨g, o + j, none⟩) hg).trans (hc j u hj)⟩
theorem cs_at : ∀ (l : List Tk) (k : Nat) (x : Tk), l[k]? = some x → (cs l)[k * 3]? = some (.int .i64 (x.k : Int)) ∧ (cs l)[k * 3 + 1]? = some (.string x.t) ∧ (cs l)[k * 3 + 2]? = some (.int .i64 (x.p : Int))
  | [], k, x, h => by simp at h
  | y :: l, 0, x, h => by
    simp only [List.getElem?_cons_zero, Option.some.injEq] at h
    subst h
    exact ⟨rfl, rfl, rfl⟩
  | y :: l, k + 1, x, h => by
    have ih := cs_at l k x (by simpa using h)
    have e : ∀ j, (cs (y :: l))[j + 3]? = (cs l)[j]? := fun j => rfl
    rw [show (k + 1) * 3 = k * 3 + 3 from by omega, show k * 3 + 3 + 1 = (k * 3 + 1) + 3 from by omega, show k * 3 + 3 + 2 = (k * 3 + 2) + 3 from by omega, e, e, e]
    exact ih

theorem info9 : (Try.prog.info? 9).map (fun i => (i.zero, i.size, i.bytes)) = some (some (.string ⟨#[]⟩), 1, 16) := by kernel_rfl
def txs (l : List Tk) : List Value := l.map fun x => .string x.t

set_option maxRecDepth 100000 in
set_option maxHeartbeats 1000000 in
theorem texts_any (l : List Tk) (v : Value) (w : World) (hl : l.length ≤ 100000) (ht : Toks w v l) :
    Calls Try.prog 13 #[v] w fun e w' => ∃ v', e = .returned v' ∧ w'.ownsRow w.heap.size 9 1 v' l.length (txs l) ∧ Below w.heap.size w w' := by
  obtain ⟨i0, hi, hz0, hz1, hz2⟩ := info_parts info9
  obtain ⟨b, o, c, rfl, hh⟩ := ht
  have HH := Lib.hid hh
  clear hh
  go_enter Try.func13, Try.ntmps13
  go_wp2
  go_loopw [3, 8] (fun r i wr => ∃ k : Nat, k ≤ l.length ∧ i = .int .i64 (k : Int) ∧ wr.ownsRow w.heap.size 9 1 r k (txs (l.take k)) ∧ Below w.heap.size w wr) (fun _ i _ => l.length - (intOf i).toNat)
  case atStart => exact ⟨0, by omega, rfl, World.ownsRow_nil _ _ _ _, Below.refl _ _⟩
  case round =>
    obtain ⟨k, hk, rfl, hrow, hB⟩ := hrel
    have hlen : (txs (l.take k)).length = k := by simp [txs]; omega
    by_cases hlt : k < l.length
    · have hlt' : (k : Int) < (l.length : Int) := by omega
      obtain ⟨x, hx⟩ : ∃ x, l[k]? = some x := ⟨l[k], List.getElem?_eq_getElem hlt⟩
      obtain ⟨g, rfl, hg, hc⟩ := HH.out (fun e => by rw [e] at hlt; simp at hlt)
      obtain ⟨h0, h1, h2⟩ := cs_at l k x hx
      have c0 := (hB.cell (p := ⟨g, o + k * 3, none⟩) hg).trans (hc _ _ h0)
      have c1 := (hB.cell (p := ⟨g, o + (k * 3 + 1), none⟩) hg).trans (hc _ _ h1)
      have c2 := (hB.cell (p := ⟨g, o + (k * 3 + 2), none⟩) hg).trans (hc _ _ h2)
      rw [← Nat.add_assoc] at c1 c2
      have htk : txs (l.take (k + 1)) = txs (l.take k) ++ [.string x.t] := by
        rw [List.take_add_one, hx]
        simp [txs]
      have HTK := Lib.hid htk
      clear htk h0 h1 h2 hc
      have hnew := cell_one_new (wr.alloc (.cells #[.int .i64 (x.k : Int), .string x.t, .int .i64 (x.p : Int)] 42)) (.string x.t) 9
      rw [World.size_alloc] at hnew
      have hBs := hB.size
      go_wp2_with (at_builtin; refine wpList_append_own _ rfl _ _ 34 rfl w.heap.size 9 i0 (.string ⟨#[]⟩) 1 16 Try.underlying34 hi hz0 hz1 hz2 rfl (by decide) _ _ _ rfl ((hrow.alloc _).alloc _) ⟨wr.heap.size + 1, 0, none⟩ 1 1 [.string x.t] rfl rfl hnew (by simp [Value.oneCell']) (by unfold maxLen; omega) (by omega) (by simp; omega) ?_; intro v' w1 hown' hgrow _)
      refine ⟨⟨k + 1, by omega, by go_num, ?_, Below.grown ((hB.alloc hBs _).alloc (by simp; omega) _) hgrow (by simp; omega) (fun j hj => (hrow.lt j hj).1)⟩, ?_⟩
      · rw [HTK.out]
        exact hown'
      · simp [intOf]; omega
    · have hge : (l.length : Int) ≤ (k : Int) := by omega
      have hke : l.take k = l := List.take_of_length_le (by omega)
      have HKE := Lib.hid hke
      have hkl : k = l.length := by omega
      have HKL := Lib.hid hkl
      have HR := Lib.hid hrow
      have HB := Lib.hid hB
      clear hke hkl hrow hB
      go_wp2
      go_ret
      refine ⟨_, rfl, ?_, HB.out⟩
      have := HR.out
      rw [HKE.out, HKL.out] at this
      exact this
end Go.Proofs.Ytfljnhmpelpdaaa
