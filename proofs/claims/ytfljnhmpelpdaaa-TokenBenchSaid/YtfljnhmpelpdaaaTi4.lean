/- The texts of tokens of any numbers. -/
import Derived.Test.YtfljnhmpelpdaaaTi3
namespace Go.Proofs.Ytfljnhmpelpdaaa
open Go.RowKit

set_option maxRecDepth 100000 in
set_option maxHeartbeats 1000000 in
theorem textsI_any (l : List Ti) (v : Value) (w : World) (hl : l.length ≤ 100000) (ht : Lst tic w v l) :
    Calls Try.prog 13 #[v] w fun e w' => ∃ v', e = .returned v' ∧ w'.ownsRow w.heap.size 9 1 v' l.length ((l.map Ti.t).flatMap stc) ∧ Below w.heap.size w w' := by
  obtain ⟨i0, hi, hz0, hz1, hz2⟩ := info_parts info9
  have HT := Lib.hid ht
  obtain ⟨b, c, rfl⟩ := ht.slice
  clear ht
  go_enter Try.func13, Try.ntmps13
  go_wp2
  go_loopw [3, 8] (fun r i wr => ∃ k : Nat, k ≤ l.length ∧ i = .int .i64 (k : Int) ∧ wr.ownsRow w.heap.size 9 1 r k (((l.take k).map Ti.t).flatMap stc) ∧ Below w.heap.size w wr) (fun _ i _ => l.length - (intOf i).toNat)
  case atStart => exact ⟨0, by omega, rfl, World.ownsRow_nil _ _ _ _, Below.refl _ _⟩
  case round =>
    obtain ⟨k, hk, rfl, hrow, hB⟩ := hrel
    by_cases hlt : k < l.length
    · have hlt' : (k : Int) < (l.length : Int) := by omega
      obtain ⟨g, o, cc, x, hx, hv, hg, hc⟩ := HT.out.at_ tic_len hlt
      injection hv with hb _ hcc
      subst hb hcc
      have c0 := (hB.cell (p := ⟨g, o + k * 3 + 0, none⟩) hg).trans (hc 0 (by omega))
      have c1 := (hB.cell (p := ⟨g, o + k * 3 + 1, none⟩) hg).trans (hc 1 (by omega))
      have c2 := (hB.cell (p := ⟨g, o + k * 3 + 2, none⟩) hg).trans (hc 2 (by omega))
      simp [tic] at c0 c1 c2
      have htk : ((l.take (k + 1)).map Ti.t).flatMap stc = ((l.take k).map Ti.t).flatMap stc ++ [.string x.t] := by
        rw [List.take_add_one, hx]
        simp [stc]
      have HTK := Lib.hid htk
      clear htk hx hc
      have hnew := cell_one_new (wr.alloc (.cells #[.int .i64 x.k, .string x.t, .int .i64 x.p] 42)) (.string x.t) 9
      rw [World.size_alloc] at hnew
      have hBs := hB.size
      go_wp2_with (at_builtin; refine wpList_append_own _ rfl _ _ 34 rfl w.heap.size 9 i0 (.string ⟨#[]⟩) 1 16 Try.underlying34 hi hz0 hz1 hz2 rfl (by decide) _ _ _ rfl ((hrow.alloc _).alloc _) ⟨wr.heap.size + 1, 0, none⟩ 1 1 [.string x.t] rfl rfl hnew (by simp [Value.oneCell']) (by unfold maxLen; omega) (by omega) (by simp; omega) ?_; intro v' w1 hown' hgrow _)
      refine ⟨⟨k + 1, by omega, by go_num, ?_, Below.grown ((hB.alloc hBs _).alloc (by simp; omega) _) hgrow (by simp; omega) (fun j hj => (hrow.lt j hj).1)⟩, ?_⟩
      · rw [HTK.out]
        exact hown'
      · simp [intOf]; omega
    · have hge : (l.length : Int) ≤ (k : Int) := by omega
      have hkl : k = l.length := by omega
      subst hkl
      have HR := Lib.hid hrow
      have HB := Lib.hid hB
      clear hrow hB
      go_wp2
      go_ret
      refine ⟨_, rfl, ?_, HB.out⟩
      have := HR.out
      rw [List.take_length] at this
      exact this

set_option maxRecDepth 100000 in
set_option maxHeartbeats 1000000 in
theorem refTexts_any (l : List Ti) (v : Value) (w : World) (hl : l.length ≤ 100000) (ht : Lst tic w v l) :
    Calls Try.prog 14 #[v] w fun e w' => ∃ v', e = .returned v' ∧ w'.ownsRow w.heap.size 9 1 v' l.length ((l.map Ti.t).flatMap stc) ∧ Below w.heap.size w w' := by
  obtain ⟨i0, hi, hz0, hz1, hz2⟩ := info_parts info9
  have HT := Lib.hid ht
  obtain ⟨b, c, rfl⟩ := ht.slice
  clear ht
  go_enter Try.func14, Try.ntmps14
  go_wp2
  go_loopw [3, 4] (fun r i wr => ∃ k : Nat, k ≤ l.length ∧ i = .int .i64 (k : Int) ∧ wr.ownsRow w.heap.size 9 1 r k (((l.take k).map Ti.t).flatMap stc) ∧ Below w.heap.size w wr) (fun _ i _ => l.length - (intOf i).toNat)
  case atStart => exact ⟨0, by omega, rfl, World.ownsRow_nil _ _ _ _, Below.refl _ _⟩
  case round =>
    obtain ⟨k, hk, rfl, hrow, hB⟩ := hrel
    by_cases hlt : k < l.length
    · have hlt' : (k : Int) < (l.length : Int) := by omega
      obtain ⟨g, o, cc, x, hx, hv, hg, hc⟩ := HT.out.at_ tic_len hlt
      injection hv with hb _ hcc
      subst hb hcc
      have c0 := (hB.cell (p := ⟨g, o + k * 3 + 0, none⟩) hg).trans (hc 0 (by omega))
      have c1 := (hB.cell (p := ⟨g, o + k * 3 + 1, none⟩) hg).trans (hc 1 (by omega))
      have c2 := (hB.cell (p := ⟨g, o + k * 3 + 2, none⟩) hg).trans (hc 2 (by omega))
      simp [tic] at c0 c1 c2
      have htk : ((l.take (k + 1)).map Ti.t).flatMap stc = ((l.take k).map Ti.t).flatMap stc ++ [.string x.t] := by
        rw [List.take_add_one, hx]
        simp [stc]
      have HTK := Lib.hid htk
      clear htk hx hc
      have hnew := cell_one_new wr (.string x.t) 9
      have hBs := hB.size
      go_wp2_with (at_builtin; refine wpList_append_own _ rfl _ _ 34 rfl w.heap.size 9 i0 (.string ⟨#[]⟩) 1 16 Try.underlying34 hi hz0 hz1 hz2 rfl (by decide) _ _ _ rfl (hrow.alloc _) ⟨wr.heap.size, 0, none⟩ 1 1 [.string x.t] rfl rfl hnew (by simp [Value.oneCell']) (by unfold maxLen; omega) (by omega) (by simp; omega) ?_; intro v' w1 hown' hgrow _)
      refine ⟨⟨k + 1, by omega, by go_num, ?_, Below.grown (hB.alloc hBs _) hgrow (by simp; omega) (fun j hj => (hrow.lt j hj).1)⟩, ?_⟩
      · rw [HTK.out]
        exact hown'
      · simp [intOf]; omega
    · have hge : (l.length : Int) ≤ (k : Int) := by omega
      have hkl : k = l.length := by omega
      subst hkl
      have HR := Lib.hid hrow
      have HB := Lib.hid hB
      clear hrow hB
      go_wp2
      go_ret
      refine ⟨_, rfl, ?_, HB.out⟩
      have := HR.out
      rw [List.take_length] at this
      exact this
end Go.Proofs.Ytfljnhmpelpdaaa
