/- All of a text is read: Bench, Verilog. -/
import Derived.Test.YtfljnhmpelpdaaaDoorTkAll
namespace Go.Proofs.YtfljnhmpelpdaaaDoor.Tok
set_option maxRecDepth 100000
open Go.RowKit

/-- what is told of all -/
def AllOut (w : World) (r : List Tk ⊕ Nat) (e : Ending) (w' : World) : Prop :=
  match r with
  | .inl l => ∃ v, e = .returned (.tuple #[v, .int .i64 0, .int .i64 0]) ∧ w'.ownsRow (w.heap.size + 3) 23 3 v l.length (cs l) ∧ Below w.heap.size w w'
  | .inr a => e = .returned (.tuple #[.slice none 0 0, .int .i64 (a : Int), .int .i64 2]) ∧ Below w.heap.size w w'

theorem index_in : ∀ (l t : List UInt8), 0 ≤ Lib.index l t → Lib.index l t + t.length ≤ l.length
  | [], t, h => by
    unfold Lib.index at h ⊢
    split
    · rename_i h1; rw [List.isEmpty_iff] at h1; subst h1; simp
    · rename_i h1; rw [if_neg h1] at h; omega
  | b :: l, t, h => by
    have ih := index_in l t
    unfold Lib.index at h ⊢
    split
    · rename_i h1
      rw [List.isPrefixOf_iff_prefix] at h1
      have := h1.length_le
      omega
    · rename_i h1
      rw [if_neg h1] at h
      split
      · rename_i h2; rw [if_pos h2] at h; omega
      · rename_i h2
        rw [if_neg h2] at h
        have := Lib.index_ge l t
        have h3 : Lib.index l t ≠ -1 := by simpa using h2
        have := ih (by omega)
        simp only [List.length_cons]
        push_cast
        omega
theorem upP_two (s : ByteArray) (a : Nat) (x y : UInt8) (ha : a ≤ s.size) (h : upP s a ⟨#[x, y]⟩ ≠ s.size) : upP s a ⟨#[x, y]⟩ + 2 ≤ s.size := by
  have hll : (s.data.toList.drop a).length = s.size - a := by simp
  unfold upP at h ⊢
  split
  · rename_i h0
    have := index_in _ _ h0
    have h2 : (⟨#[x, y]⟩ : ByteArray).data.toList.length = 2 := rfl
    omega
  · rename_i h0; rw [if_neg h0] at h; exact absurd rfl h

theorem stepN_go (s : ByteArray) (a : Nat) (l l' : List Tk) (b : Nat) (h : a < s.size) (hst : stepN s a l = some (l', b)) : a < b ∧ b ≤ s.size ∧ l'.length ≤ l.length + 1 := by
  unfold stepN at hst
  split at hst
  · simp only [Option.some.injEq, Prod.mk.injEq] at hst; obtain ⟨rfl, rfl⟩ := hst; exact ⟨by omega, by omega, by omega⟩
  · split at hst
    · rename_i h1 h2
      simp only [Option.some.injEq, Prod.mk.injEq] at hst; obtain ⟨rfl, rfl⟩ := hst
      exact ⟨upP_gt s a 10 h (by rw [h2]; decide), upP_le s a _ (by omega), by omega⟩
    · split at hst
      · simp only [Option.some.injEq, Prod.mk.injEq] at hst; obtain ⟨rfl, rfl⟩ := hst; exact ⟨by omega, by omega, by simp⟩
      · split at hst
        · rename_i h5
          simp only [Option.some.injEq, Prod.mk.injEq] at hst; obtain ⟨rfl, rfl⟩ := hst
          exact ⟨skip_gt wN s a h h5, skip_le wN s a (by omega), by simp⟩
        · cases hst
theorem stepV_go (s : ByteArray) (a : Nat) (l l' : List Tk) (b : Nat) (h : a < s.size) (hst : stepV s a l = some (l', b)) : a < b ∧ b ≤ s.size ∧ l'.length ≤ l.length + 1 := by
  unfold stepV at hst
  split at hst
  · simp only [Option.some.injEq, Prod.mk.injEq] at hst; obtain ⟨rfl, rfl⟩ := hst; exact ⟨by omega, by omega, by omega⟩
  split at hst
  · rename_i h2
    simp only [Option.some.injEq, Prod.mk.injEq] at hst; obtain ⟨rfl, rfl⟩ := hst
    refine ⟨upP_gt s a 10 h ?_, upP_le s a _ (by omega), by omega⟩
    intro he
    unfold Lib.hasPrefix at h2
    have hd : s.data.toList.drop a = s[a] :: s.data.toList.drop (a + 1) := by rw [List.drop_eq_getElem_cons (by simpa using h)]; rfl
    rw [hd] at h2
    unfold atB at he
    rw [List.getElem?_eq_getElem (by simpa using h)] at he
    have h3 : s.data.toList[a]'(by simpa using h) = s[a] := rfl
    rw [h3] at he
    have h4 : (47 : UInt8) = s[a] := by
      rw [List.isPrefixOf] at h2
      simp at h2
      exact h2.1
    rw [← h4] at he
    revert he
    decide
  split at hst
  · rename_i h3
    have h4 := prefix2 s a _ _ h3
    split at hst
    · cases hst
    · rename_i h5
      simp only [Option.some.injEq, Prod.mk.injEq] at hst; obtain ⟨rfl, rfl⟩ := hst
      have h6 := upP_le s (a + 2) ⟨#[42, 47]⟩ h4
      refine ⟨?_, ?_, by omega⟩
      · unfold upP; split <;> omega
      · exact upP_two s (a + 2) 42 47 h4 h5
  split at hst
  · split at hst
    · cases hst
    · rename_i h5
      simp only [Option.some.injEq, Prod.mk.injEq] at hst; obtain ⟨rfl, rfl⟩ := hst
      have := skip_ge (isIn 33 126) s (a + 1)
      exact ⟨by omega, skip_le _ s (a + 1) (by omega), by simp⟩
  split at hst
  · simp only [Option.some.injEq, Prod.mk.injEq] at hst; obtain ⟨rfl, rfl⟩ := hst; exact ⟨by omega, by omega, by simp⟩
  split at hst
  · rename_i h6
    simp only [Option.some.injEq, Prod.mk.injEq] at hst; obtain ⟨rfl, rfl⟩ := hst
    exact ⟨skip_gt wV s a h h6, skip_le wV s a (by omega), by simp⟩
  · cases hst

set_option maxRecDepth 100000 in
set_option maxHeartbeats 1000000 in
theorem readAllN_any (k1 k2 k3 : Value) (s : ByteArray) (w : World) (hX : HX w) (hK1 : Kd w k1 kBl) (hK2 : Kd w k2 kM) (hK3 : Kd w k3 wN) (hs : s.size ≤ 100000) :
    Calls Tryd.prog 34 #[.iface 70 (.agg #[k1, k2, k3]), .string s] w (AllOut w (runAll (stepN s) s.size s.size [] 0)) := by
  have hmf : ∀ (fn : Fn) (first cap : Array Value) (w : World), (Instr.makeFunc fn first cap).run Tryd.prog w = .ok (.func fn first cap) w := fun _ _ _ _ => rfl
  have HXX := Lib.hid hX
  have HKK1 := Lib.hid hK1
  have HKK2 := Lib.hid hK2
  have HKK3 := Lib.hid hK3
  clear hX hK1 hK2 hK3
  generalize hT : runAll (stepN s) s.size s.size [] 0 = T
  have HT := Lib.hid hT
  clear hT
  go_enter_defers Tryd.func34, Tryd.ntmps34
  go_wp2
  have k1 := ((Blk.new w #[.slice none 0 0] 36).alloc (.cells #[.int .i64 0] 3)).alloc (.cells #[.int .i64 0] 26)
  have k2 := (Blk.new (w.alloc (.cells #[.slice none 0 0] 36)) #[.int .i64 0] 3).alloc (.cells #[.int .i64 0] 26)
  have k3 := Blk.new ((w.alloc (.cells #[.slice none 0 0] 36)).alloc (.cells #[.int .i64 0] 3)) #[.int .i64 0] 26
  have hB0 : Below w.heap.size w (((w.alloc (.cells #[.slice none 0 0] 36)).alloc (.cells #[.int .i64 0] 3)).alloc (.cells #[.int .i64 0] 26)) :=
    (((Below.refl _ w).alloc (Nat.le_refl _) _).alloc (by simp) _).alloc (by simp; omega) _
  have hsz : w.heap.size + 3 ≤ (((w.alloc (.cells #[.slice none 0 0] 36)).alloc (.cells #[.int .i64 0] 3)).alloc (.cells #[.int .i64 0] 26)).heap.size := by simp
  simp only [World.size_alloc] at k2 k3
  generalize ((w.alloc (.cells #[.slice none 0 0] 36)).alloc (.cells #[.int .i64 0] 3)).alloc (.cells #[.int .i64 0] 26) = W0 at k1 k2 k3 hB0 hsz
  go_loopw [7] (fun i wr => ∃ (a f : Nat) (l : List Tk) (v : Value), i = .int .i64 (a : Int) ∧ a ≤ s.size ∧ s.size ≤ a + f ∧ l.length ≤ a ∧ Blk wr w.heap.size #[v] 36 ∧ Blk wr (w.heap.size + 1) #[.int .i64 0] 3 ∧ Blk wr (w.heap.size + 1 + 1) #[.int .i64 0] 26 ∧
    wr.ownsRow (w.heap.size + 3) 23 3 v l.length (cs l) ∧ Below w.heap.size w wr ∧ w.heap.size + 3 ≤ wr.heap.size ∧ Hid (runAll (stepN s) s.size f l a = T)) (fun i _ => s.size - (intOf i).toNat)
  case atStart => exact ⟨0, s.size, [], _, rfl, by omega, by omega, by simp, k1, k2, k3, World.ownsRow_nil _ _ _ _, hB0, hsz, HT⟩
  case round =>
    obtain ⟨a, f, l, v, rfl, ha, haf, hla, b1, b2, b3, hrow, hB, hsz', hrun⟩ := hrel
    have c1 := b1.cell 0
    have c2 := b2.cell 0
    have c3 := b3.cell 0
    have f1 := b1.frozen 0
    have f2 := b2.frozen 0
    have f3 := b3.frozen 0
    simp at c1 c2 c3
    clear k1 k2 k3 hB0 hsz
    by_cases hlt : a < s.size
    · have hlt' : (a : Int) < (s.size : Int) := by omega
      have HR := readN_any k1 k2 k3 s a l v wr (w.heap.size + 3) hsz' (HXX.out.below hB) (HKK1.out.below hB) (HKK2.out.below hB) (HKK3.out.below hB) (by omega) hrow hs hlt
      obtain ⟨f, rfl⟩ : ∃ f', f = f' + 1 := ⟨f - 1, by omega⟩
      have hrun2 := hrun.out
      rw [runAll, if_pos hlt] at hrun2
      cases hst : stepN s a l with
      | none =>
        rw [hst] at HR hrun2
        have HR1 := Lib.hid HR
        have HTT := Lib.hid hrun2
        clear HR hrun hrun2
        go_wp2_with fail
        refine HR1.out.mono ?_
        rintro e w' ⟨rfl, hbel⟩
        have b1' := b1.below hbel (by omega)
        have b2' := b2.below hbel (by omega)
        have b3' := b3.below hbel (by omega)
        have HBB := Lib.hid (hB.trans (hbel.mono (by omega)))
        refine leaves_cons (f := 55) (args := #[.pointer (some ⟨w.heap.size, 0, none⟩), .pointer (some ⟨w.heap.size + 1, 0, none⟩), .pointer (some ⟨w.heap.size + 1 + 1, 0, none⟩)]) (by simp) (by simp [go_sem]) ?_
        refine (catch_panic w.heap.size v (a : Int) w' b1' b2' b3').mono ?_
        rintro e u' w'' ⟨rfl, rfl, d1, d2, d3, hb4⟩
        have d1' := d1.cell 0
        have d2' := d2.cell 0
        have d3' := d3.cell 0
        simp at d1' d2' d3'
        have HB4 := Lib.hid (HBB.out.trans hb4)
        clear hb4
        simp [Leaves, settle, results, Tryd.results34, go_sem, d1', d2', d3']
        rw [← HTT.out]
        exact ⟨rfl, HB4.out⟩
      | some q =>
      obtain ⟨l', b⟩ := q
      have hgo := stepN_go s a l l' b hlt hst
      rw [hst] at HR hrun2
      have HRUN := Lib.hid hrun2
      have HR1 := Lib.hid HR
      clear HR hrun hrun2 hst
      go_wp2_with fail
      refine HR1.out.mono ?_
      rintro e w' ⟨v', rfl, hrow', hbel⟩
      have b1' := b1.below hbel (by omega)
      have b2' := b2.below hbel (by omega)
      have b3' := b3.below hbel (by omega)
      have c1' := b1'.cell 0
      have f1' := b1'.frozen 0
      simp at c1'
      obtain ⟨so, sc, rfl⟩ := row_slice hrow'
      have HR2 := Lib.hid (row_kept hrow' w.heap.size (by omega) (.slice so l'.length sc))
      have K1 := Lib.hid (b1'.set 0 (.slice so l'.length sc))
      have K2 := Lib.hid (b2'.other (B' := w.heap.size) (by omega) 0 (.slice so l'.length sc))
      have K3 := Lib.hid (b3'.other (B' := w.heap.size) (by omega) 0 (.slice so l'.length sc))
      have HBB := Lib.hid ((hB.trans (hbel.mono (by omega))).setCell (p := ⟨w.heap.size, 0, none⟩) (Nat.le_refl _) (.slice so l'.length sc))
      have hs3 : w.heap.size + 3 ≤ (w'.setCell ⟨w.heap.size, 0, none⟩ (.slice so l'.length sc)).heap.size := by
        have := hbel.size
        simp; omega
      have HS3 := Lib.hid hs3
      clear c1 c2 c3 f1 f2 f3 b1 b2 b3 b1' b2' b3' hrow hrow' hB hbel hs3
      go_wp2
      refine ⟨⟨b, f, l', _, rfl, hgo.2.1, by omega, by omega, K1.out, K2.out, K3.out, HR2.out, HBB.out, HS3.out, HRUN⟩, ?_⟩
      simp [intOf]; omega
    · have hge : (s.size : Int) ≤ (a : Int) := by omega
      obtain ⟨so, sc, rfl⟩ := row_slice hrow
      have hrun2 : runAll (stepN s) s.size f l a = .inl l := by
        cases f with
        | zero => rfl
        | succ f => rw [runAll, if_neg hlt]
      have HTT := Lib.hid (hrun.out.symm.trans hrun2)
      have HR2 := Lib.hid hrow
      have HBB := Lib.hid hB
      clear hrun hrun2 hrow hB
      have q1 := ((b1.set 0 (.slice so l.length sc)).other (B' := w.heap.size + 1) (by omega) 0 (.int .i64 0)).other (B' := w.heap.size + 1 + 1) (by omega) 0 (.int .i64 0)
      have q2 := ((b2.other (B' := w.heap.size) (by omega) 0 (.slice so l.length sc)).set 0 (.int .i64 0)).other (B' := w.heap.size + 1 + 1) (by omega) 0 (.int .i64 0)
      have q3 := ((b3.other (B' := w.heap.size) (by omega) 0 (.slice so l.length sc)).other (B' := w.heap.size + 1) (by omega) 0 (.int .i64 0)).set 0 (.int .i64 0)
      have HR3 := Lib.hid (row_kept (row_kept (row_kept HR2.out w.heap.size (by omega) (.slice so l.length sc)) (w.heap.size + 1) (by omega) (.int .i64 0)) (w.heap.size + 1 + 1) (by omega) (.int .i64 0))
      have HB3 := Lib.hid (((HBB.out.setCell (p := ⟨w.heap.size, 0, none⟩) (Nat.le_refl _) (.slice so l.length sc)).setCell (p := ⟨w.heap.size + 1, 0, none⟩) (by simp) (.int .i64 0)).setCell (p := ⟨w.heap.size + 1 + 1, 0, none⟩) (by simp; omega) (.int .i64 0))
      have Q1 := Lib.hid q1
      have Q2 := Lib.hid q2
      have Q3 := Lib.hid q3
      clear q1 q2 q3
      go_wp2
      generalize ((wr.setCell ⟨w.heap.size, 0, none⟩ (.slice so l.length sc)).setCell ⟨w.heap.size + 1, 0, none⟩ (.int .i64 0)).setCell ⟨w.heap.size + 1 + 1, 0, none⟩ (.int .i64 0) = WX at Q1 Q2 Q3 HR3 HB3
      have d1 := Q1.out.cell 0
      have d2 := Q2.out.cell 0
      have d3 := Q3.out.cell 0
      simp at d1 d2 d3
      refine leaves_cons (f := 55) (args := #[.pointer (some ⟨w.heap.size, 0, none⟩), .pointer (some ⟨w.heap.size + 1, 0, none⟩), .pointer (some ⟨w.heap.size + 1 + 1, 0, none⟩)]) (by simp) (by simp [go_sem]) ?_
      refine (catch_idle _ _ _ _).mono ?_
      rintro e u' w'' ⟨rfl, rfl, rfl⟩
      simp [Leaves, settle, results, Tryd.results34, go_sem, d1, d2, d3]
      rw [HTT.out]
      exact ⟨_, rfl, HR3.out, HB3.out⟩
set_option maxRecDepth 100000 in
set_option maxHeartbeats 1000000 in
theorem readAllV_any (k1 k2 k3 : Value) (s : ByteArray) (w : World) (hX : HX w) (hK1 : Kd w k1 kBl) (hK2 : Kd w k2 mV) (hK3 : Kd w k3 wV) (hs : s.size ≤ 100000) :
    Calls Tryd.prog 34 #[.iface 72 (.agg #[k1, k2, k3]), .string s] w (AllOut w (runAll (stepV s) s.size s.size [] 0)) := by
  have hmf : ∀ (fn : Fn) (first cap : Array Value) (w : World), (Instr.makeFunc fn first cap).run Tryd.prog w = .ok (.func fn first cap) w := fun _ _ _ _ => rfl
  have HXX := Lib.hid hX
  have HKK1 := Lib.hid hK1
  have HKK2 := Lib.hid hK2
  have HKK3 := Lib.hid hK3
  clear hX hK1 hK2 hK3
  generalize hT : runAll (stepV s) s.size s.size [] 0 = T
  have HT := Lib.hid hT
  clear hT
  go_enter_defers Tryd.func34, Tryd.ntmps34
  go_wp2
  have k1 := ((Blk.new w #[.slice none 0 0] 36).alloc (.cells #[.int .i64 0] 3)).alloc (.cells #[.int .i64 0] 26)
  have k2 := (Blk.new (w.alloc (.cells #[.slice none 0 0] 36)) #[.int .i64 0] 3).alloc (.cells #[.int .i64 0] 26)
  have k3 := Blk.new ((w.alloc (.cells #[.slice none 0 0] 36)).alloc (.cells #[.int .i64 0] 3)) #[.int .i64 0] 26
  have hB0 : Below w.heap.size w (((w.alloc (.cells #[.slice none 0 0] 36)).alloc (.cells #[.int .i64 0] 3)).alloc (.cells #[.int .i64 0] 26)) :=
    (((Below.refl _ w).alloc (Nat.le_refl _) _).alloc (by simp) _).alloc (by simp; omega) _
  have hsz : w.heap.size + 3 ≤ (((w.alloc (.cells #[.slice none 0 0] 36)).alloc (.cells #[.int .i64 0] 3)).alloc (.cells #[.int .i64 0] 26)).heap.size := by simp
  simp only [World.size_alloc] at k2 k3
  generalize ((w.alloc (.cells #[.slice none 0 0] 36)).alloc (.cells #[.int .i64 0] 3)).alloc (.cells #[.int .i64 0] 26) = W0 at k1 k2 k3 hB0 hsz
  go_loopw [7] (fun i wr => ∃ (a f : Nat) (l : List Tk) (v : Value), i = .int .i64 (a : Int) ∧ a ≤ s.size ∧ s.size ≤ a + f ∧ l.length ≤ a ∧ Blk wr w.heap.size #[v] 36 ∧ Blk wr (w.heap.size + 1) #[.int .i64 0] 3 ∧ Blk wr (w.heap.size + 1 + 1) #[.int .i64 0] 26 ∧
    wr.ownsRow (w.heap.size + 3) 23 3 v l.length (cs l) ∧ Below w.heap.size w wr ∧ w.heap.size + 3 ≤ wr.heap.size ∧ Hid (runAll (stepV s) s.size f l a = T)) (fun i _ => s.size - (intOf i).toNat)
  case atStart => exact ⟨0, s.size, [], _, rfl, by omega, by omega, by simp, k1, k2, k3, World.ownsRow_nil _ _ _ _, hB0, hsz, HT⟩
  case round =>
    obtain ⟨a, f, l, v, rfl, ha, haf, hla, b1, b2, b3, hrow, hB, hsz', hrun⟩ := hrel
    have c1 := b1.cell 0
    have c2 := b2.cell 0
    have c3 := b3.cell 0
    have f1 := b1.frozen 0
    have f2 := b2.frozen 0
    have f3 := b3.frozen 0
    simp at c1 c2 c3
    clear k1 k2 k3 hB0 hsz
    by_cases hlt : a < s.size
    · have hlt' : (a : Int) < (s.size : Int) := by omega
      have HR := readV_any k1 k2 k3 s a l v wr (w.heap.size + 3) hsz' (HXX.out.below hB) (HKK1.out.below hB) (HKK2.out.below hB) (HKK3.out.below hB) (by omega) hrow hs hlt
      obtain ⟨f, rfl⟩ : ∃ f', f = f' + 1 := ⟨f - 1, by omega⟩
      have hrun2 := hrun.out
      rw [runAll, if_pos hlt] at hrun2
      cases hst : stepV s a l with
      | none =>
        rw [hst] at HR hrun2
        have HR1 := Lib.hid HR
        have HTT := Lib.hid hrun2
        clear HR hrun hrun2
        go_wp2_with fail
        refine HR1.out.mono ?_
        rintro e w' ⟨rfl, hbel⟩
        have b1' := b1.below hbel (by omega)
        have b2' := b2.below hbel (by omega)
        have b3' := b3.below hbel (by omega)
        have HBB := Lib.hid (hB.trans (hbel.mono (by omega)))
        refine leaves_cons (f := 55) (args := #[.pointer (some ⟨w.heap.size, 0, none⟩), .pointer (some ⟨w.heap.size + 1, 0, none⟩), .pointer (some ⟨w.heap.size + 1 + 1, 0, none⟩)]) (by simp) (by simp [go_sem]) ?_
        refine (catch_panic w.heap.size v (a : Int) w' b1' b2' b3').mono ?_
        rintro e u' w'' ⟨rfl, rfl, d1, d2, d3, hb4⟩
        have d1' := d1.cell 0
        have d2' := d2.cell 0
        have d3' := d3.cell 0
        simp at d1' d2' d3'
        have HB4 := Lib.hid (HBB.out.trans hb4)
        clear hb4
        simp [Leaves, settle, results, Tryd.results34, go_sem, d1', d2', d3']
        rw [← HTT.out]
        exact ⟨rfl, HB4.out⟩
      | some q =>
      obtain ⟨l', b⟩ := q
      have hgo := stepV_go s a l l' b hlt hst
      rw [hst] at HR hrun2
      have HRUN := Lib.hid hrun2
      have HR1 := Lib.hid HR
      clear HR hrun hrun2 hst
      go_wp2_with fail
      refine HR1.out.mono ?_
      rintro e w' ⟨v', rfl, hrow', hbel⟩
      have b1' := b1.below hbel (by omega)
      have b2' := b2.below hbel (by omega)
      have b3' := b3.below hbel (by omega)
      have c1' := b1'.cell 0
      have f1' := b1'.frozen 0
      simp at c1'
      obtain ⟨so, sc, rfl⟩ := row_slice hrow'
      have HR2 := Lib.hid (row_kept hrow' w.heap.size (by omega) (.slice so l'.length sc))
      have K1 := Lib.hid (b1'.set 0 (.slice so l'.length sc))
      have K2 := Lib.hid (b2'.other (B' := w.heap.size) (by omega) 0 (.slice so l'.length sc))
      have K3 := Lib.hid (b3'.other (B' := w.heap.size) (by omega) 0 (.slice so l'.length sc))
      have HBB := Lib.hid ((hB.trans (hbel.mono (by omega))).setCell (p := ⟨w.heap.size, 0, none⟩) (Nat.le_refl _) (.slice so l'.length sc))
      have hs3 : w.heap.size + 3 ≤ (w'.setCell ⟨w.heap.size, 0, none⟩ (.slice so l'.length sc)).heap.size := by
        have := hbel.size
        simp; omega
      have HS3 := Lib.hid hs3
      clear c1 c2 c3 f1 f2 f3 b1 b2 b3 b1' b2' b3' hrow hrow' hB hbel hs3
      go_wp2
      refine ⟨⟨b, f, l', _, rfl, hgo.2.1, by omega, by omega, K1.out, K2.out, K3.out, HR2.out, HBB.out, HS3.out, HRUN⟩, ?_⟩
      simp [intOf]; omega
    · have hge : (s.size : Int) ≤ (a : Int) := by omega
      obtain ⟨so, sc, rfl⟩ := row_slice hrow
      have hrun2 : runAll (stepV s) s.size f l a = .inl l := by
        cases f with
        | zero => rfl
        | succ f => rw [runAll, if_neg hlt]
      have HTT := Lib.hid (hrun.out.symm.trans hrun2)
      have HR2 := Lib.hid hrow
      have HBB := Lib.hid hB
      clear hrun hrun2 hrow hB
      have q1 := ((b1.set 0 (.slice so l.length sc)).other (B' := w.heap.size + 1) (by omega) 0 (.int .i64 0)).other (B' := w.heap.size + 1 + 1) (by omega) 0 (.int .i64 0)
      have q2 := ((b2.other (B' := w.heap.size) (by omega) 0 (.slice so l.length sc)).set 0 (.int .i64 0)).other (B' := w.heap.size + 1 + 1) (by omega) 0 (.int .i64 0)
      have q3 := ((b3.other (B' := w.heap.size) (by omega) 0 (.slice so l.length sc)).other (B' := w.heap.size + 1) (by omega) 0 (.int .i64 0)).set 0 (.int .i64 0)
      have HR3 := Lib.hid (row_kept (row_kept (row_kept HR2.out w.heap.size (by omega) (.slice so l.length sc)) (w.heap.size + 1) (by omega) (.int .i64 0)) (w.heap.size + 1 + 1) (by omega) (.int .i64 0))
      have HB3 := Lib.hid (((HBB.out.setCell (p := ⟨w.heap.size, 0, none⟩) (Nat.le_refl _) (.slice so l.length sc)).setCell (p := ⟨w.heap.size + 1, 0, none⟩) (by simp) (.int .i64 0)).setCell (p := ⟨w.heap.size + 1 + 1, 0, none⟩) (by simp; omega) (.int .i64 0))
      have Q1 := Lib.hid q1
      have Q2 := Lib.hid q2
      have Q3 := Lib.hid q3
      clear q1 q2 q3
      go_wp2
      generalize ((wr.setCell ⟨w.heap.size, 0, none⟩ (.slice so l.length sc)).setCell ⟨w.heap.size + 1, 0, none⟩ (.int .i64 0)).setCell ⟨w.heap.size + 1 + 1, 0, none⟩ (.int .i64 0) = WX at Q1 Q2 Q3 HR3 HB3
      have d1 := Q1.out.cell 0
      have d2 := Q2.out.cell 0
      have d3 := Q3.out.cell 0
      simp at d1 d2 d3
      refine leaves_cons (f := 55) (args := #[.pointer (some ⟨w.heap.size, 0, none⟩), .pointer (some ⟨w.heap.size + 1, 0, none⟩), .pointer (some ⟨w.heap.size + 1 + 1, 0, none⟩)]) (by simp) (by simp [go_sem]) ?_
      refine (catch_idle _ _ _ _).mono ?_
      rintro e u' w'' ⟨rfl, rfl, rfl⟩
      simp [Leaves, settle, results, Tryd.results34, go_sem, d1, d2, d3]
      rw [HTT.out]
      exact ⟨_, rfl, HR3.out, HB3.out⟩
end Go.Proofs.YtfljnhmpelpdaaaDoor.Tok
